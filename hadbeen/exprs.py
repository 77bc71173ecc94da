"""Expressions: how they are made, read, told, written and reckoned."""

from hadbeen.errors import NoProgram
from hadbeen.plain import as_value, is_name, is_number_text

TWO_WORDS = ("plus", "minus", "times", "over", "rest", "less", "same")
MOST_PARTS = 15
MOST_WITHIN = 6


class Expr:
    """What the four kinds of expressions have in common."""

    def told(self):
        raise NotImplementedError("told by each kind")

    def words(self):
        raise NotImplementedError("told by each kind")

    def reckon(self, look):
        raise NotImplementedError("told by each kind")

    def again(self):
        raise NotImplementedError("told by each kind")


class Number(Expr):
    """A value as it stands."""

    def __init__(self, value):
        self.value = value

    def told(self):
        return ("number", self.value)

    def words(self):
        return str(self.value)

    def reckon(self, look):
        return self.value

    def again(self):
        return Number(self.value)


class Box(Expr):
    """What the box of this name holds."""

    def __init__(self, name):
        self.name = name

    def told(self):
        return ("box", self.name)

    def words(self):
        return self.name

    def reckon(self, look):
        return look(("box", self.name))

    def again(self):
        return Box(self.name)


class Cell(Expr):
    """What the cell holds whose number the inner expression tells."""

    def __init__(self, inner):
        # A copy: the asker may change what was handed in.
        self.inner = inner.again()

    def told(self):
        return ("cell", self.inner.told())

    def words(self):
        return " ".join(["cell", self.inner.words()])

    def reckon(self, look):
        number = self.inner.reckon(look)
        if number is None:
            return None
        return look(("cell", number))

    def again(self):
        return Cell(self.inner)


class Two(Expr):
    """Two expressions with a word between them."""

    def __init__(self, word, left, right):
        self.word = word
        # Copies: the asker may change what was handed in.
        self.left = left.again()
        self.right = right.again()

    def told(self):
        return (self.word, self.left.told(), self.right.told())

    def words(self):
        return " ".join([self.word, self.left.words(), self.right.words()])

    def reckon(self, look):
        left = self.left.reckon(look)
        if left is None:
            return None
        right = self.right.reckon(look)
        if right is None:
            return None
        return joined(self.word, left, right)

    def again(self):
        return Two(self.word, self.left, self.right)


def joined(word, left, right):
    if word == "plus":
        return as_value(left + right)
    if word == "minus":
        return as_value(left - right)
    if word == "times":
        return as_value(left * right)
    if word == "less":
        return 1 if left < right else 0
    if word == "same":
        return 1 if left == right else 0
    return divided(word, left, right)


def divided(word, left, right):
    if right == 0:
        return None
    return left // right if word == "over" else left % right


class Reader:
    """The words of one line, and how many of them were taken."""

    def __init__(self, text):
        if not isinstance(text, str):
            raise NoProgram("this is no text")
        # Split by the blank alone: a blank too many leaves a word without signs, which nothing takes.
        self.given = text.split(" ")
        self.taken = 0

    def is_done(self):
        return self.taken == len(self.given)

    def take_word(self):
        if self.is_done():
            raise NoProgram("a word too few")
        word = self.given[self.taken]
        self.taken += 1
        return word

    def take_name(self):
        word = self.take_word()
        if not is_name(word):
            raise NoProgram(f"{word!r} is no name")
        return word

    def take_expr(self):
        first = self.taken
        expr = self.take_within(MOST_WITHIN)
        # Each part is written by one word, so the words taken count the parts.
        if self.taken - first > MOST_PARTS:
            raise NoProgram("an expression has too many parts")
        return expr

    def take_within(self, room):
        # Asked ahead of the word, so that no text leads deeper than an expression may go.
        if room == 0:
            raise NoProgram("too many parts stand within one another")
        word = self.take_word()
        if word == "cell":
            return Cell(self.take_within(room - 1))
        if word in TWO_WORDS:
            left = self.take_within(room - 1)
            right = self.take_within(room - 1)
            return Two(word, left, right)
        return leaf_of(word)


def leaf_of(word):
    if is_number_text(word):
        return Number(int(word))
    if is_name(word):
        return Box(word)
    raise NoProgram(f"{word!r} begins no expression")


def read_expr(text):
    reader = Reader(text)
    expr = reader.take_expr()
    if not reader.is_done():
        raise NoProgram("a word too many")
    return expr
