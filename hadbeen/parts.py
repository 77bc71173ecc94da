"""Parts of a run: what hangs together at an address of a choice, a look or a call."""

from hadbeen.course import line_of, row_of
from hadbeen.errors import NoMoment, NoPart

PART_KINDS = ("if", "while", "call")


def part_of(run, address):
    if run.found(address) is None:
        raise NoMoment("the run has no moment at this address")
    if not has_part(run, address):
        raise NoPart("only a choice, a look and a call have a part")
    # A look's part has all that comes behind it of its loop: addresses rise, so the loop's numbers alone are asked.
    begins = address[:-1] if row_of(run.setting.program, address).kind == "while" else address
    first = run.numbers[address]
    behind = first
    while behind < len(run.passed) and run.passed[behind].address[:len(begins)] == begins:
        behind += 1
    return (first, behind)


def has_part(run, address):
    return row_of(run.setting.program, address).kind in PART_KINDS


def part_moments(run, address):
    span = part_of(run, address)
    return run.passed[span[0]:span[1]]


def outside(run, address):
    pairs = {}
    made = {}
    for moment in part_moments(run, address):
        for place, value in moment.reads:
            if place not in made:
                pairs.setdefault(place, value)
        made.update(moment.makes)
    return list(pairs.items())


def made_by(run, address):
    made = {}
    for moment in part_moments(run, address):
        made.update(moment.makes)
    return made


def lines_of(run, address):
    return sorted(set([line_of(moment.address) for moment in part_moments(run, address)]))


def is_whole(run, address):
    span = part_of(run, address)
    return span[1] < len(run.passed) or run.end() == ("ended",)
