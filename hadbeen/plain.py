"""Whole numbers, values and names, and how they are written."""

LETTERS = "abcdefghijklmnopqrstuvwxyz"
FIGURES = "0123456789"
VALUES = 1000000
MOST_FIGURES = 6
MOST_LETTERS = 6
LANGUAGE_WORDS = (
    "skip", "set", "put", "ask", "draw", "tell", "if", "else", "end", "while", "call",
    "fun", "main", "give", "cell", "plus", "minus", "times", "over", "rest", "less", "same",
)


def is_whole(thing):
    # Python counts True and False among the ints; the document does not.
    return isinstance(thing, int) and not isinstance(thing, bool)


def is_value(thing):
    return is_whole(thing) and 0 <= thing < VALUES


def as_value(number):
    return number % VALUES


def is_made_of(text, signs):
    return all([sign in signs for sign in text])


def is_name(thing):
    if not isinstance(thing, str) or not 1 <= len(thing) <= MOST_LETTERS:
        return False
    return is_made_of(thing, LETTERS) and thing not in LANGUAGE_WORDS


def is_number_text(text):
    # The length is asked first: int() would take any count of figures.
    if not 1 <= len(text) <= MOST_FIGURES or not is_made_of(text, FIGURES):
        return False
    return text == "0" or not text.startswith("0")
