"""The rows of a program, each by itself: how they are read and told, and their shapes."""

from hadbeen.errors import NoProgram
from hadbeen.exprs import Reader

SIMPLE_KINDS = ("skip", "set", "put", "ask", "draw", "tell")

# How many names stand behind the first word, and how many expressions at least and at most behind those.
FORMS = {
    "skip": (0, 0, 0),
    "set": (1, 1, 1),
    "put": (0, 2, 2),
    "ask": (2, 1, 1),
    "draw": (2, 0, 0),
    "tell": (0, 1, 1),
    "if": (0, 1, 1),
    "while": (0, 1, 1),
    "call": (2, 0, 3),
    "give": (0, 1, 1),
}


class Row:
    """One row: its kind, its names and its expressions, each in the order of the line."""

    def __init__(self, kind, names, exprs):
        self.kind = kind
        self.names = tuple(names)
        self.exprs = tuple([expr.again() for expr in exprs])

    def told(self):
        return (self.kind,) + self.names + tuple([expr.told() for expr in self.exprs])

    def shape(self):
        return "simple" if self.kind in SIMPLE_KINDS else self.kind


def read_row(line):
    reader = Reader(line)
    kind = reader.take_word()
    if kind not in FORMS:
        raise NoProgram(f"{kind!r} begins no row")
    form = FORMS[kind]
    names = [reader.take_name() for turn in range(form[0])]
    exprs = []
    while not reader.is_done():
        exprs.append(reader.take_expr())
    if not form[1] <= len(exprs) <= form[2]:
        raise NoProgram(f"{kind!r} has another count of expressions")
    return Row(kind, names, exprs)
