"""Settings: a program, a start, a bound and what is forced; and changes that are put into them."""

from hadbeen.errors import NoChange, NoPlace, NoValue
from hadbeen.plain import is_address, is_start_place, is_value

CHANGE_KINDS = ("start", "row", "goes")


class Setting:
    """What a run goes by."""

    def __init__(self, program, start, bound=400, forced=None):
        check_start(list(start), list(start.values()))
        self.program = program
        self.bound = bound
        # Copies: the asker may change what was handed in.
        self.placed = dict(start)
        self.ways = {} if forced is None else dict(forced)

    def start(self):
        return dict(self.placed)

    def forced(self):
        return dict(self.ways)

    def holds(self, place):
        return self.placed.get(place, 0)

    def again(self):
        return Setting(self.program, self.placed, self.bound, self.ways)

    def way_of(self, address, looked):
        return self.ways.get(address, looked)

    def changed(self, change):
        kind = key_of(change)[0]
        if kind == "start":
            return self.with_start(change[1], change[2])
        if kind == "row":
            return Setting(self.program.with_line(change[1], change[2]), self.placed, self.bound, self.ways)
        return self.with_going(change[1], change[2])

    def with_start(self, place, value):
        check_start([place], [value])
        start = self.start()
        start[place] = value
        return Setting(self.program, start, self.bound, self.ways)

    def with_going(self, address, truth):
        if not is_address(address) or not is_going(truth):
            raise NoChange("this is no going")
        forced = self.forced()
        if truth is None:
            forced.pop(address, None)
        else:
            forced[address] = truth
        return Setting(self.program, self.placed, self.bound, forced)

    def alike(self, other):
        if self.program.text() != other.program.text() or self.bound != other.bound:
            return False
        return self.ways == other.ways and without_noughts(self.placed) == without_noughts(other.placed)


def key_of(change):
    if not isinstance(change, tuple) or len(change) != 3 or change[0] not in CHANGE_KINDS:
        raise NoChange("this is no change")
    return change[:2]


def check_start(places, values):
    if not all([is_start_place(place) for place in places]):
        raise NoPlace("a start gives boxes of main, cells and answers of the world alone")
    if not all([is_value(value) for value in values]):
        raise NoValue("a start gives values alone")


def is_going(thing):
    # By `is`, since Python holds 1 and 0 equal to True and False.
    return thing is None or thing is True or thing is False


def without_noughts(start):
    # A place that a start doesn't give holds 0, so one given 0 tells nothing more.
    kept = {}
    for place, value in start.items():
        if value != 0:
            kept[place] = value
    return kept
