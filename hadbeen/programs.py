"""Programs: how they are read, the rows of their lines, and a line put otherwise."""

from hadbeen.errors import NoChange, NoProgram
from hadbeen.exprs import Reader
from hadbeen.plain import is_whole
from hadbeen.rows import FORMS, read_row

MOST_LINES = 60
MOST_FUNCTIONS = 4
MOST_PARAMETERS = 3
MOST_BLOCKS = 5
# No function can be called so: it is a word of the language.
MAIN = "main"


class Program:
    """The lines of a program, the row of each line that has one, and how the rows hang together.

    A block is known by the line of its choice or loop with 0, or 1 behind else; by the name of its function; or as
    MAIN. It has the numbers of its rows' lines, a function's give among them. Heads have each function's parameters.
    """

    def __init__(self, lines, rows, blocks, heads):
        self.given = tuple(lines)
        self.rows = dict(rows)
        self.blocks = dict(blocks)
        self.heads = dict(heads)
        self.follows = followers(self.blocks)

    def text(self):
        return "\n".join(self.given)

    def lines(self):
        return list(self.given)

    def row(self, number):
        return self.rows[number].told() if self.has_row(number) else None

    def has_row(self, number):
        # Asked first, since Python would find line 1 by True.
        return is_whole(number) and number in self.rows

    def first_row(self, block):
        numbers = self.blocks[block]
        return numbers[0] if numbers else None

    def next_row(self, number):
        return self.follows.get(number)

    def with_line(self, number, line):
        if not self.has_row(number):
            raise NoChange("no row has this line")
        try:
            return self.put_line(number, line)
        except NoProgram as refusal:
            raise NoChange("with this line it is no program") from refusal

    def put_line(self, number, line):
        # The line is read by itself first: one with a line end in it might make a program of more lines.
        if read_row(line).shape() != self.rows[number].shape():
            raise NoChange("the line is of another shape")
        lines = self.lines()
        lines[number] = line
        return read_program("\n".join(lines))


class LineReader:
    """The lines of one text, how many of them were taken, and what was found in them."""

    def __init__(self, lines):
        self.given = tuple(lines)
        self.taken = 0
        self.rows = {}
        self.blocks = {}
        self.heads = {}

    def is_over(self):
        return self.taken == len(self.given)

    def first_word(self):
        return "" if self.is_over() else self.given[self.taken].split(" ")[0]

    def take_line(self):
        if self.is_over():
            raise NoProgram("a line too few")
        line = self.given[self.taken]
        self.taken += 1
        return line

    def take_only(self, wanted):
        line = self.take_line()
        if line != wanted:
            raise NoProgram(f"{line!r} stands where {wanted!r} should")

    def take_row(self):
        number = self.taken
        self.rows[number] = read_row(self.take_line())
        return number

    def take_rows(self, room):
        numbers = []
        while self.first_word() in FORMS and self.first_word() != "give":
            number = self.take_row()
            numbers.append(number)
            if self.rows[number].kind in ("if", "while"):
                self.take_blocks(number, room)
        return tuple(numbers)

    def take_blocks(self, number, room):
        # Asked ahead of the rows, so that no text leads deeper than a program may go.
        if room == 0:
            raise NoProgram("too many choices and loops stand within one another")
        self.blocks[(number, 0)] = self.take_rows(room - 1)
        if self.rows[number].kind == "if":
            self.take_only("else")
            self.blocks[(number, 1)] = self.take_rows(room - 1)
        self.take_only("end")

    def take_function(self):
        name = self.take_head()
        numbers = self.take_rows(MOST_BLOCKS)
        # Of all rows, only a give stops the rows ahead of it, so no other one is taken here.
        self.blocks[name] = numbers + (self.take_row(),)

    def take_main(self):
        self.take_only(MAIN)
        self.blocks[MAIN] = self.take_rows(MOST_BLOCKS)

    def take_head(self):
        reader = Reader(self.take_line())
        reader.take_word()
        name = reader.take_name()
        parameters = []
        while not reader.is_done():
            parameters.append(reader.take_name())
        if name in self.heads:
            raise NoProgram(f"two functions are called {name!r}")
        if len(parameters) > MOST_PARAMETERS or len(set(parameters)) < len(parameters):
            raise NoProgram(f"{name!r} has too many parameters, or two of one name")
        self.heads[name] = tuple(parameters)
        return name


def read_program(text):
    if not isinstance(text, str):
        raise NoProgram("this is no text")
    lines = text.split("\n")
    if len(lines) > MOST_LINES:
        raise NoProgram("a program has too many lines")
    reader = LineReader(lines)
    while reader.first_word() == "fun":
        reader.take_function()
    if len(reader.heads) > MOST_FUNCTIONS:
        raise NoProgram("a program has too many functions")
    reader.take_main()
    if not reader.is_over():
        raise NoProgram("a line stands behind the rows of main")
    check_calls(reader.rows, reader.heads)
    return Program(lines, reader.rows, reader.blocks, reader.heads)


def check_calls(rows, heads):
    for row in rows.values():
        if row.kind == "call" and (row.names[1] not in heads or len(heads[row.names[1]]) != len(row.exprs)):
            raise NoProgram("a call fits no function")


def followers(blocks):
    follows = {}
    for numbers in blocks.values():
        for one, other in zip(numbers, numbers[1:]):
            follows[one] = other
    return follows
