"""The document done once more, as plainly as may be and without the package, to hold its answers against.

Runs by recursion over the text (stage 3), parts by their addresses (stage 5), books by 6.2 to 6.5 and 7. And a
maker of programs, settings and changes, each known by its seed.
"""

import random

SIMPLE = ("skip", "set", "put", "ask", "draw", "tell")
ARITY = {"cell": 1, "plus": 2, "minus": 2, "times": 2, "over": 2, "rest": 2, "less": 2, "same": 2}


class Fell(Exception):
    pass


class Tired(Exception):
    pass


class NaiveRun:
    """A run of a text: its moments as told tuples, its end, and what it came of."""

    def __init__(self, text, start, bound=400, forced=None):
        self.lines = text.split("\n")
        self.start, self.bound, self.forced = dict(start), bound, dict(forced or {})
        self.held, self.moments, self.last_end = dict(start), [], None
        self.functions = {}
        for number, line in enumerate(self.lines):
            words = line.split(" ")
            if words[0] == "fun":
                self.functions[words[1]] = (number, words[2:])
        try:
            self.rows(self.lines.index("main") + 1, (), (), 0)
            self.last_end = ("ended",)
        except Tired:
            self.last_end = ("tired",)
        except Fell as fell:
            self.last_end = ("fell",) + fell.args

    def word(self, number):
        return self.lines[number].split(" ")[0] if number < len(self.lines) else ""

    def over(self, number):
        """The line behind the row that begins at this one."""
        word = self.word(number)
        number += 1
        if word in ("if", "while"):
            while self.word(number) not in ("end", ""):
                number = number + 1 if self.word(number) == "else" else self.over(number)
            number += 1
        return number

    def rows(self, number, block, frame, depth):
        while self.word(number) not in ("else", "end", "give", ""):
            self.row(number, block, frame, depth)
            number = self.over(number)
        return number

    def row(self, number, block, frame, depth):
        word = self.word(number)
        address = block + (number,)
        if word == "if":
            goes = self.one(address, number, frame, depth)
            if goes:
                self.rows(number + 1, address + (0,), frame, depth)
            else:
                behind = number + 1
                while self.word(behind) != "else":
                    behind = self.over(behind)
                self.rows(behind + 1, address + (1,), frame, depth)
        elif word == "while":
            look = 0
            while self.one(address + (look,), number, frame, depth):
                self.rows(number + 1, address + (look,), frame, depth)
                look += 1
        elif word == "call":
            self.one(address, number, frame, depth)
            head = self.functions[self.lines[number].split(" ")[2]][0]
            give = self.rows(head + 1, address + (0,), address, depth + 1)
            box = ("box", frame, self.lines[number].split(" ")[1])
            self.one(address + (0, give), give, address, depth + 1, box)
        else:
            self.one(address, number, frame, depth)

    def one(self, address, number, frame, depth, given=None):
        if len(self.moments) >= self.bound:
            raise Tired
        reads, makes, said, looked, goes = [], [], None, None, None
        try:
            said, looked = self.deed(self.lines[number].split(" "), address, frame, depth, reads, makes, given)
        except Fell as fell:
            self.moments.append((address, reads, [], None, None, None, fell.args[0]))
            raise Fell(fell.args[0], address)
        if looked is not None:
            goes = self.forced.get(address, looked)
        for place, value in makes:
            self.held[place] = value
        self.moments.append((address, reads, makes, said, looked, goes, None))
        return goes

    def deed(self, words, address, frame, depth, reads, makes, given):
        kind = words[0]
        first = {"skip": 1, "set": 2, "put": 1, "ask": 3, "draw": 3, "tell": 1, "if": 1, "while": 1, "call": 3,
                 "give": 1}[kind]
        left, values = words[first:], []
        while left:
            values.append(self.reckon(left, frame, reads))
        if kind == "set":
            makes.append((("box", frame, words[1]), values[0]))
        elif kind == "put":
            makes.append((("cell", values[0]), values[1]))
        elif kind == "ask":
            makes.append((("box", frame, words[1]), self.look(("world", words[2], values[0]), reads)))
        elif kind == "draw":
            count = self.look(("drawn", words[2]), reads)
            makes.append((("box", frame, words[1]), self.look(("world", words[2], count), reads)))
            makes.append((("drawn", words[2]), (count + 1) % 10 ** 6))
        elif kind == "call":
            if depth == 6:
                raise Fell("deep")
            for name, value in zip(self.functions[words[2]][1], values):
                makes.append((("box", address, name), value))
        elif kind == "give":
            makes.append((given, values[0]))
        return (values[0] if kind == "tell" else None), (values[0] != 0 if kind in ("if", "while") else None)

    def look(self, place, reads):
        value = self.held.get(place, 0)
        if (place, value) not in reads:
            reads.append((place, value))
        return value

    def reckon(self, words, frame, reads):
        word = words.pop(0)
        if word.isdigit():
            return int(word)
        if word not in ARITY:
            return self.look(("box", frame, word), reads)
        given = [self.reckon(words, frame, reads) for turn in range(ARITY[word])]
        if word == "cell":
            return self.look(("cell", given[0]), reads)
        one, other = given
        if word in ("over", "rest") and other == 0:
            raise Fell("nought")
        return {"plus": lambda: (one + other) % 10 ** 6, "minus": lambda: (one - other) % 10 ** 6,
                "times": lambda: one * other % 10 ** 6, "over": lambda: one // other, "rest": lambda: one % other,
                "less": lambda: int(one < other), "same": lambda: int(one == other)}[word]()

    def addresses(self):
        return [moment[0] for moment in self.moments]

    def line(self, address):
        return address[-1] if len(address) % 2 else address[-2]

    def kind(self, address):
        return self.word(self.line(address))

    def behind(self, many):
        held = dict(self.start)
        for moment in self.moments[:many]:
            held.update(moment[2])
        return held

    def part(self, address):
        """The numbers of the moments of a part, or None where the address has none."""
        if address not in self.addresses() or self.kind(address) not in ("if", "while", "call"):
            return None
        if self.kind(address) != "while":
            return [n for n, other in enumerate(self.addresses()) if other[:len(address)] == address]
        upto = len(address) - 1
        return [n for n, other in enumerate(self.addresses())
                if other[:upto] == address[:upto] and other[upto] >= address[upto]]

    def whole(self, address):
        return self.part(address)[-1] + 1 < len(self.moments) or self.last_end == ("ended",)

    def outside(self, numbers):
        pairs, made = [], []
        for moment in [self.moments[number] for number in numbers]:
            pairs += [pair for pair in moment[1] if pair[0] not in made + [place for place, value in pairs]]
            made += [place for place, value in moment[2]]
        return pairs


def naive_keeps(old, new, kind, number):
    """The numbers of the old run's moments that an entry of this kind keeps at the new run's moment, or None."""
    address, held = new.moments[number][0], new.behind(number)
    if address not in old.addresses():
        return None
    numbers = [old.addresses().index(address)] if kind == "kept" else old.part(address)
    if numbers is None or kind == "part" and not old.whole(address) or number + len(numbers) > new.bound:
        return None
    for moment in [old.moments[one] for one in numbers]:
        lines = [old.line(moment[0])] + ([moment[0][-3]] if old.kind(moment[0]) == "give" else [])
        if any(old.lines[line] != new.lines[line] for line in lines):
            return None
        if moment[4] is not None and new.forced.get(moment[0], moment[4]) != moment[5]:
            return None
    if any(held.get(place, 0) != value for place, value in old.outside(numbers)):
        return None
    return numbers


def naive_entry(old, new, kind, number, makers):
    """The entry of this kind at the new run's moment and the count of its moments, or None where it may not be."""
    address = new.moments[number][0]
    if kind == "done":
        return ("done", address), 1
    numbers = naive_keeps(old, new, kind, number)
    if numbers is None:
        return None
    return (kind, address, [makers.get(place, -1) for place, value in old.outside(numbers)]), len(numbers)


def naive_book(old, new, choose=lambda may: may[0]):
    """A book; choose is handed all entries that may stand next, from the one that keeps most on."""
    book, makers, number = [], {}, 0
    while number < len(new.moments):
        may = [naive_entry(old, new, kind, number, makers) for kind in ("part", "kept", "done")]
        entry, count = choose([one for one in may if one is not None])
        for moment in new.moments[number:number + count]:
            makers.update({place: len(book) for place, value in moment[2]})
        book.append(entry)
        number += count
    return book


def naive_fault(old, new, book):
    """The number of the first entry that isn't so, or None where the book is let by."""
    makers, number = {}, 0
    for turn, entry in enumerate(book):
        if number == len(new.moments):
            return turn
        may = [naive_entry(old, new, kind, number, makers) for kind in ("part", "kept", "done")]
        fits = [one for one in may if one is not None and repr(one[0]) == repr(entry)]
        if not fits:
            return turn
        for moment in new.moments[number:number + fits[0][1]]:
            makers.update({place: turn for place, value in moment[2]})
        number += fits[0][1]
    return None if number == len(new.moments) else len(book)


def naive_leads(run, address):
    found = []
    for lead in run.addresses():
        upto = len(lead)
        if run.kind(lead) in ("if", "call"):
            leads = address[:upto] == lead
        elif run.kind(lead) == "while":
            leads = address[:upto - 1] == lead[:-1] and lead[-1] <= address[upto - 1]
        else:
            leads = False
        if leads and lead != address:
            found.append(lead)
    return found


def naive_why(one, other, address):
    """None where neither run has the address."""
    here, there = ([moment for moment in run.moments if moment[0] == address] for run in (one, other))
    if not here and not there:
        return None
    if here and there:
        return ("alike",) if here == there else naive_unlike(one, other, here[0], there[0])
    having, lacking = (one, other) if here else (other, one)
    for lead in naive_leads(having, address):
        goes = [moment[5] for moment in having.moments if moment[0] == lead]
        if goes != [moment[5] for moment in lacking.moments if moment[0] == lead]:
            return ("gone" if here else "fresh", lead)
        line = having.line(lead)
        if having.kind(lead) == "call" and having.lines[line].split(" ")[2] != lacking.lines[line].split(" ")[2]:
            return ("row", line)
    return ("ended", lacking.last_end)


def naive_unlike(one, other, here, there):
    address = here[0]
    lines = [one.line(address)] + ([address[-3]] if one.kind(address) == "give" else [])
    for line in lines:
        if one.lines[line] != other.lines[line]:
            return ("row", line)
    for number, (place, value) in enumerate(here[1]):
        if there[1][number] != (place, value):
            makers = []
            for run in (one, other):
                made = [moment[0] for moment in run.moments if moment[0] < address and place in dict(moment[2])]
                makers.append(made[-1] if made else None)
            return ("read", place, value, there[1][number][1]) + tuple(makers)
    return ("goes",)


class Maker:
    """Programs, settings and changes out of a seed."""

    def __init__(self, seed):
        self.chance = random.Random(seed)

    def one_of(self, things):
        return things[self.chance.randrange(len(things))]

    def expr(self, room=3):
        word = self.one_of(("n", "n", "b", "b", "b") if room == 1 else
                           ("n", "b", "b", "cell", "plus", "plus", "minus", "times", "over", "rest", "less", "same"))
        if word == "n":
            return str(self.one_of((0, 1, 1, 2, 2, 3, 5)))
        if word == "b":
            return self.one_of("abc")
        return " ".join([word] + [self.expr(room - 1) for turn in range(ARITY[word])])

    def simple(self):
        box, word = self.one_of("abc"), self.one_of(("w", "a"))
        return self.one_of((
            "skip", f"set {box} {self.expr()}", f"set {box} {self.expr()}", f"put {self.expr(2)} {self.expr(2)}",
            f"ask {box} {word} {self.expr(2)}", f"draw {box} {word}", f"tell {self.expr()}"))

    def call(self):
        name = self.one_of(sorted(self.counts))
        return " ".join([f"call {self.one_of('abc')} {name}"] + [self.expr(2) for turn in range(self.counts[name])])

    def block(self, many, room):
        lines = []
        while len(lines) < many:
            kind = self.one_of(("simple", "simple", "simple", "if", "while", "call"))
            if kind == "call" and self.counts:
                lines.append(self.call())
            elif kind == "if" and room:
                lines += [f"if {self.expr()}"] + self.block(self.chance.randrange(3), room - 1) + ["else"]
                lines += self.block(self.chance.randrange(3), room - 1) + ["end"]
            elif kind == "while" and room:
                lines += self.loop(room)
            else:
                lines.append(self.simple())
        return lines

    def loop(self, room):
        box = self.one_of("abc")
        body = self.block(self.chance.randrange(3), room - 1)
        if self.chance.randrange(4):
            # Most loops count up, so that they come to their end.
            return [f"while less {box} {self.one_of('3456')}"] + body + [f"set {box} plus {box} 1", "end"]
        return [f"while {self.expr()}"] + body + ["end"]

    def program(self):
        names = ("f", "g", "a", "h")[:self.chance.randrange(4)]
        self.counts = {name: self.chance.randrange(4) for name in names}
        lines = []
        for name in names:
            lines += [" ".join(["fun", name] + ["a", "b", "c"][:self.counts[name]])]
            lines += self.block(self.chance.randrange(4), 2) + [f"give {self.expr()}"]
        lines += ["main"] + self.block(self.chance.randrange(2, 9), 3)
        return "\n".join(lines) if len(lines) <= 60 else self.program()

    def start(self):
        places = [("box", (), "a"), ("box", (), "b"), ("cell", 0), ("cell", 1), ("cell", 2), ("world", "w", 0),
                  ("world", "w", 1), ("world", "a", 0), ("world", "a", 2)]
        return {place: self.chance.randrange(6) for place in places if self.chance.randrange(2)}

    def change(self, text, addresses):
        """A change of any kind, of a line or an address that is there."""
        kind = self.one_of(("start", "start", "row", "row", "goes"))
        if kind == "start":
            return ("start", self.one_of((("box", (), "a"), ("box", (), "b"), ("cell", 1), ("world", "w", 0),
                                          ("world", "a", 1))), self.chance.randrange(6))
        lines = text.split("\n")
        if kind == "goes":
            looks = [address for address in addresses
                     if lines[address[-1] if len(address) % 2 else address[-2]].split(" ")[0] in ("if", "while")]
            return ("goes", self.one_of(looks or [(99,)]), self.one_of((True, False, None)))
        self.counts = {line.split(" ")[1]: len(line.split(" ")) - 2 for line in lines if line.startswith("fun ")}
        number = self.one_of([n for n, line in enumerate(lines)
                              if line.split(" ")[0] not in ("fun", "main", "else", "end")] or [None])
        if number is None:
            return ("goes", (99,), True)
        return ("row", number, self.line_for(lines[number]))

    def line_for(self, line):
        word = line.split(" ")[0]
        if word in SIMPLE:
            return self.simple()
        return self.call() if word == "call" else f"{word} {self.expr()}"
