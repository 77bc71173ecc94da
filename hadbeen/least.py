"""Least sets: the fewest changes with which a run grants a wish."""

from hadbeen.errors import NoChange, NoWish
from hadbeen.plain import is_name, is_value
from hadbeen.redo import had_been
from hadbeen.settings import key_of

MOST_CHANGES = 6
MOST_TELLS = 400
END_WORDS = ("ended", "fell", "tired")


def least(old, changes, wish):
    check_changes(old.setting, changes)
    if not is_wish(wish):
        raise NoWish("this is no wish")
    asked = []
    for numbers in rising_sets(len(changes)):
        came = what_came(run_with(old, changes, numbers), wish)
        asked.append((numbers, came))
        if came == wish[-1]:
            # A copy: what is told twice is the asker's own each time.
            return (list(numbers), asked)
    return (None, asked)


def check_changes(setting, changes):
    if not isinstance(changes, list) or not 1 <= len(changes) <= MOST_CHANGES:
        raise NoChange("this is no list of one to six changes")
    for change in changes:
        setting.changed(change)
    keys = [key_of(change) for change in changes]
    if any([key in keys[:number] for number, key in enumerate(keys)]):
        raise NoChange("two changes have one key")


def is_wish(thing):
    if not isinstance(thing, tuple) or len(thing) not in (2, 3):
        return False
    if len(thing) == 2:
        return is_tells_wish(thing) or thing[0] == "end" and thing[1] in END_WORDS
    if not is_value(thing[2]):
        return False
    return thing[0] == "box" and is_name(thing[1]) or thing[0] == "cell" and is_value(thing[1])


def is_tells_wish(thing):
    if thing[0] != "tells" or not isinstance(thing[1], list) or len(thing[1]) > MOST_TELLS:
        return False
    return all([is_value(value) for value in thing[1]])


def rising_sets(many):
    """All lists of numbers below this one, the shorter ones first, those of one length rising."""
    told = []
    longest = [[]]
    while longest:
        told.extend(longest)
        longest = with_one_more(longest, many)
    return told


def with_one_more(lists, many):
    longer = []
    for numbers in lists:
        first = numbers[-1] + 1 if numbers else 0
        longer.extend([numbers + [number] for number in range(first, many)])
    return longer


def run_with(old, changes, numbers):
    setting = old.setting
    for number in numbers:
        setting = setting.changed(changes[number])
    return had_been(old, setting)[0]


def what_came(run, wish):
    if wish[0] == "tells":
        return run.tells()
    if wish[0] == "end":
        return run.end()[0]
    place = ("box", (), wish[1]) if wish[0] == "box" else ("cell", wish[1])
    return run.behind(len(run.addresses())).get(place, 0)
