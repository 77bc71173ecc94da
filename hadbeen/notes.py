"""Notes: books and changes written as texts, and read back."""

from hadbeen.errors import NoText
from hadbeen.plain import is_name, is_number_text

MOST_NUMBERS = 100
MOST_MAKERS = 6000
NO_NUMBERS = "-"
NO_MAKER = "-1"


def book_text(book):
    return "\n".join([entry_text(entry) for entry in book])


def entry_text(entry):
    makers = [] if entry[0] == "done" else [str(maker) for maker in entry[2]]
    return " ".join([entry[0], address_text(entry[1])] + makers)


def address_text(address):
    return ".".join([str(number) for number in address]) if address else NO_NUMBERS


def change_text(change):
    if change[0] == "start":
        return " ".join(["start", place_text(change[1]), str(change[2])])
    if change[0] == "row":
        return " ".join(["row", str(change[1]), change[2]])
    return " ".join(["goes", address_text(change[1]), truth_text(change[2])])


def place_text(place):
    if place[0] == "box":
        return " ".join(["box", address_text(place[1]), place[2]])
    return " ".join([str(part) for part in place])


def truth_text(truth):
    if truth is None:
        return "free"
    return "yes" if truth else "no"


def read_book(text):
    check_text(text)
    # Else the book of no entries would have a line without signs.
    return [read_entry(line) for line in text.split("\n")] if text else []


def read_entry(line):
    words = line.split(" ")
    if words[0] == "done" and len(words) == 2:
        return ("done", read_address(words[1]))
    if words[0] not in ("part", "kept") or not 2 <= len(words) <= MOST_MAKERS + 2:
        raise NoText("this is no entry")
    return (words[0], read_address(words[1]), [read_maker(word) for word in words[2:]])


def read_address(word):
    if word == NO_NUMBERS:
        return ()
    words = word.split(".")
    if len(words) > MOST_NUMBERS:
        raise NoText("an address has too many numbers")
    return tuple([read_number(part) for part in words])


def read_number(word):
    if not is_number_text(word):
        raise NoText("this is no number")
    return int(word)


def read_maker(word):
    return -1 if word == NO_MAKER else read_number(word)


def read_name(word):
    if not is_name(word):
        raise NoText("this is no name")
    return word


def read_change(text):
    check_text(text)
    kind = text.partition(" ")[0]
    if kind == "row":
        return read_row_change(text)
    words = text.split(" ")
    if kind == "start":
        return ("start", read_place(words[1:-1]), read_number(words[-1]))
    if kind == "goes" and len(words) == 3:
        return ("goes", read_address(words[1]), read_truth(words[2]))
    raise NoText("this is no change")


def read_row_change(text):
    # The line is what stands behind the second blank, whatever blanks it has itself.
    pieces = text.partition(" ")[2].partition(" ")
    number = read_number(pieces[0])
    if pieces[2] == "" or "\n" in pieces[2]:
        raise NoText("this is no line")
    return ("row", number, pieces[2])


def read_place(words):
    kind = words[0] if words else ""
    if kind == "box" and len(words) == 3:
        return ("box", read_address(words[1]), read_name(words[2]))
    if kind == "cell" and len(words) == 2:
        return ("cell", read_number(words[1]))
    if kind == "world" and len(words) == 3:
        return ("world", read_name(words[1]), read_number(words[2]))
    if kind == "drawn" and len(words) == 2:
        return ("drawn", read_name(words[1]))
    raise NoText("this is no place")


def read_truth(word):
    if word == "free":
        return None
    if word not in ("yes", "no"):
        raise NoText("this is no going")
    return word == "yes"


def check_text(thing):
    if not isinstance(thing, str):
        raise NoText("this is no text")
