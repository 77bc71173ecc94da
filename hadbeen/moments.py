"""Moments: what one holds, and how it is done."""

from hadbeen.course import call_of_give, calls_round, frame_of, row_of
from hadbeen.plain import as_value

MOST_CALLS = 6


class Moment:
    """What was read and made at one address, and how it went."""

    def __init__(self, address, reads, makes, said, looked, goes, fell):
        self.address = address
        self.reads = tuple(reads)
        self.makes = tuple(makes)
        self.said = said
        self.looked = looked
        self.goes = goes
        self.fell = fell

    def told(self):
        # Lists made for each asker, who may change them.
        return (self.address, list(self.reads), list(self.makes), self.said, self.looked, self.goes, self.fell)


class Sight:
    """What is looked at in one moment, out of what all places hold."""

    def __init__(self, held, frame):
        self.held = held
        self.frame = frame
        # A dict keeps the order of the first looks, and each place once.
        self.seen = {}

    def see(self, place):
        self.seen[place] = self.held.get(place, 0)
        return self.seen[place]

    def see_named(self, named):
        # An expression knows a box by its name alone.
        return self.see(self.box(named[1]) if named[0] == "box" else named)

    def box(self, name):
        return ("box", self.frame, name)

    def reckoned(self, exprs):
        """The values of the expressions, in order; None where one falls."""
        values = []
        for expr in exprs:
            value = expr.reckon(lambda named: self.see_named(named))
            if value is None:
                return None
            values.append(value)
        return values

    def reads_so_far(self):
        return list(self.seen.items())


def done_moment(setting, held, address):
    row = row_of(setting.program, address)
    calls = calls_round(setting.program, address)
    sight = Sight(held, frame_of(setting.program, address))
    values = sight.reckoned(row.exprs)
    if values is None:
        return fallen(address, sight, "nought")
    if row.kind == "call" and len(calls) >= MOST_CALLS:
        return fallen(address, sight, "deep")
    if row.kind in ("if", "while"):
        looked = values[0] != 0
        goes = setting.way_of(address, looked)
        return Moment(address, sight.reads_so_far(), [], None, looked, goes, None)
    # Ahead of the reads: an ask and a draw read more than their expressions do.
    makes = made_pairs(setting.program, address, values, sight)
    said = values[0] if row.kind == "tell" else None
    return Moment(address, sight.reads_so_far(), makes, said, None, None, None)


def fallen(address, sight, cause):
    return Moment(address, sight.reads_so_far(), [], None, None, None, cause)


def made_pairs(program, address, values, sight):
    row = row_of(program, address)
    if row.kind == "set":
        return [(sight.box(row.names[0]), values[0])]
    if row.kind == "put":
        return [(("cell", values[0]), values[1])]
    if row.kind == "ask":
        return [(sight.box(row.names[0]), sight.see(("world", row.names[1], values[0])))]
    if row.kind == "draw":
        return drawn_pairs(row, sight)
    if row.kind == "call":
        names = program.heads[row.names[1]]
        return [(("box", address, name), value) for name, value in zip(names, values)]
    if row.kind == "give":
        return [(caller_box(program, address), values[0])]
    return []


def drawn_pairs(row, sight):
    drawn = ("drawn", row.names[1])
    count = sight.see(drawn)
    answer = sight.see(("world", row.names[1], count))
    return [(sight.box(row.names[0]), answer), (drawn, as_value(count + 1))]


def caller_box(program, address):
    call = call_of_give(address)
    return ("box", frame_of(program, call), row_of(program, call).names[0])
