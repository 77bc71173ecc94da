"""What is otherwise between two runs, and why."""

from hadbeen.course import changed_line, line_of, row_of, rows_round
from hadbeen.errors import NoMoment


def parted(one, other):
    gone = [address for address in one.addresses() if other.found(address) is None]
    fresh = [address for address in other.addresses() if one.found(address) is None]
    both = [address for address in one.addresses() if other.found(address) is not None]
    otherwise = [address for address in both if not is_alike(one, other, address)]
    alike = [address for address in both if is_alike(one, other, address)]
    return (gone, fresh, otherwise, alike)


def is_alike(one, other, address):
    return one.found(address).told() == other.found(address).told()


def leads(run, address):
    if run.found(address) is None:
        raise NoMoment("the run has no moment at this address")
    found = []
    for outer in rows_round(address):
        if row_of(run.setting.program, outer).kind == "while":
            found.extend(looks_ahead(outer, address))
        else:
            found.append(outer)
    return found


def looks_ahead(loop, address):
    look = address[len(loop)]
    # A look does not hang on itself, but what stands in its rows does.
    count = look if len(address) == len(loop) + 1 else look + 1
    return [loop + (number,) for number in range(count)]


def why(one, other, address):
    if one.found(address) is None and other.found(address) is None:
        raise NoMoment("neither run has a moment at this address")
    if one.found(address) is None:
        return why_it_comes(other, one, address, "fresh")
    if other.found(address) is None:
        return why_it_comes(one, other, address, "gone")
    if is_alike(one, other, address):
        return ("alike",)
    return why_unlike(one, other, address)


def why_it_comes(having, lacking, address, word):
    """Why one run has an address that the other one lacks."""
    for lead in leads(having, address):
        there = lacking.found(lead)
        if there is None or there.goes != having.found(lead).goes:
            return (word, lead)
        if calls_another(having.setting.program, lacking.setting.program, lead):
            return ("row", line_of(lead))
    return ("ended", lacking.end())


def calls_another(one, other, address):
    row = row_of(one, address)
    return row.kind == "call" and row.names[1] != row_of(other, address).names[1]


def why_unlike(one, other, address):
    number = changed_line(one.setting.program, other.setting.program, address)
    if number is not None:
        return ("row", number)
    # Of one line both look at the same places, till a value is unlike.
    for here, there in zip(one.found(address).reads, other.found(address).reads):
        if here != there:
            makers = (maker_of(one, here[0], address), maker_of(other, here[0], address))
            return ("read", here[0], here[1], there[1]) + makers
    return ("goes",)


def maker_of(run, place, address):
    """The address of the moment that made a place last ahead of this one, None where none did."""
    maker = None
    for moment in run.passed[:run.numbers[address]]:
        if place in dict(moment.makes):
            maker = moment.address
    return maker
