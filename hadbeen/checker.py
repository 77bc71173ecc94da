"""The checker: looks over a book that anybody wrote, and tells the run for which it stands."""

from hadbeen.errors import BadBook
from hadbeen.plain import is_address, is_whole
from hadbeen.redo import Redo


def check(old, setting, book):
    redo = Redo(old, setting)
    for number, entry in enumerate(book):
        if redo.is_over() or not is_right(redo, entry):
            raise BadBook(number)
        redo.write(entry[0])
    if not redo.is_over():
        raise BadBook(len(book))
    return redo.as_run()


def is_right(redo, entry):
    return is_entry(entry) and redo.may_write(entry[0]) and redo.entry(entry[0]) == entry


def is_entry(thing):
    if not isinstance(thing, tuple) or len(thing) not in (2, 3) or not is_address(thing[1]):
        return False
    if len(thing) == 2:
        return thing[0] == "done"
    return thing[0] in ("part", "kept") and is_makers(thing[2])


def is_makers(thing):
    # Asked one by one, since Python holds True equal to 1.
    return isinstance(thing, list) and all([is_whole(number) for number in thing])
