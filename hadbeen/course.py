"""The course of a run: what an address tells of its row and of the calls round it, and which address comes next."""

from hadbeen.programs import MAIN


def line_of(address):
    # A look's address has an even count of numbers: its own number stands behind its loop's line.
    return address[-1] if len(address) % 2 == 1 else address[-2]


def row_of(program, address):
    return program.rows[line_of(address)]


def calls_round(program, address):
    return [outer for outer in rows_round(address) if row_of(program, outer).kind == "call"]


def rows_round(address):
    """The addresses of the choices, loops and calls round it, of a look its own loop too, from the outermost on."""
    # Lines stand in each other place of an address; the number behind a line tells which of the row's blocks it is.
    return [address[:place + 1] for place in range(0, len(address) - 1, 2)]


def frame_of(program, address):
    calls = calls_round(program, address)
    return calls[-1] if calls else ()


def call_of_give(address):
    # The give stands in the call's block, whose number stands behind the call's address.
    return address[:-2]


def changed_line(one, other, address):
    """The number of the line that reads otherwise in two programs, of a give perhaps its call's; None where none."""
    numbers = [line_of(address)]
    if row_of(one, address).kind == "give":
        numbers.append(line_of(call_of_give(address)))
    for number in numbers:
        if one.given[number] != other.given[number]:
            return number
    return None


def first_address(program):
    number = program.first_row(MAIN)
    return None if number is None else address_at(program, (), number)


def next_address(program, address, goes):
    """Where a run comes behind a moment that did not fall; None where it has ended."""
    row = row_of(program, address)
    if row.kind == "while":
        return behind_look(program, address, goes)
    if row.kind == "if":
        return behind_choice(program, address, goes)
    if row.kind == "call":
        return address_at(program, address + (0,), program.first_row(row.names[1]))
    return behind_row(program, address)


def behind_look(program, address, goes):
    if not goes:
        return behind_row(program, address[:-1])
    number = program.first_row((address[-2], 0))
    return next_look(address) if number is None else address_at(program, address, number)


def behind_choice(program, address, goes):
    way = 0 if goes else 1
    number = program.first_row((address[-1], way))
    return behind_row(program, address) if number is None else address_at(program, address + (way,), number)


def behind_row(program, address):
    """Where a run comes when the row at this address is wholly done; None where it has ended."""
    while address != ():
        block = address[:-1]
        number = program.next_row(address[-1])
        if number is not None:
            return address_at(program, block, number)
        if block != () and row_of(program, block).kind == "while":
            return next_look(block)
        # With the last row of its block a choice or a call is wholly done, too.
        address = block[:-1]
    return None


def next_look(address):
    return address[:-1] + (address[-1] + 1,)


def address_at(program, block, number):
    # A loop has no moment of its own, but its looks do.
    return block + ((number, 0) if program.rows[number].kind == "while" else (number,))
