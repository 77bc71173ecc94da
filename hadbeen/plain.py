"""Whole numbers, values and names, how they are written, and the addresses and places made of them."""

LETTERS = "abcdefghijklmnopqrstuvwxyz"
FIGURES = "0123456789"
VALUES = 1000000
MOST_FIGURES = 6
MOST_LETTERS = 6
LANGUAGE_WORDS = (
    "skip", "set", "put", "ask", "draw", "tell", "if", "else", "end", "while", "call",
    "fun", "main", "give", "cell", "plus", "minus", "times", "over", "rest", "less", "same",
)


def is_whole(thing):
    # Python counts True and False among the ints; the document does not.
    return isinstance(thing, int) and not isinstance(thing, bool)


def is_value(thing):
    return is_whole(thing) and 0 <= thing < VALUES


def as_value(number):
    return number % VALUES


def is_made_of(text, signs):
    return all([sign in signs for sign in text])


def is_name(thing):
    if not isinstance(thing, str) or not 1 <= len(thing) <= MOST_LETTERS:
        return False
    return is_made_of(thing, LETTERS) and thing not in LANGUAGE_WORDS


def is_number_text(text):
    # The length is asked first: int() would take any count of figures.
    if not 1 <= len(text) <= MOST_FIGURES or not is_made_of(text, FIGURES):
        return False
    return text == "0" or not text.startswith("0")


def is_address(thing):
    return isinstance(thing, tuple) and all([is_whole(number) and number >= 0 for number in thing])


def is_start_place(thing):
    if not isinstance(thing, tuple) or len(thing) not in (2, 3):
        return False
    if len(thing) == 2:
        return thing[0] == "cell" and is_value(thing[1])
    if thing[0] == "box":
        return thing[1] == () and is_name(thing[2])
    return thing[0] == "world" and is_name(thing[1]) and is_value(thing[2])
