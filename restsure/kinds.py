"""What counts as a number, a bit, a reading, a list and a signal."""

LETTERS = "abcdefghijklmnopqrstuvwxyz"
LONGEST_SIGNAL = 8


def is_number(thing):
    """Whether thing is a number."""
    # To Python a bool is an int, too; here it never stands for 0 or 1.
    return isinstance(thing, int) and not isinstance(thing, bool)


def is_below(thing, limit):
    """Whether thing is a number from 0 on and below limit."""
    return is_number(thing) and 0 <= thing < limit


def is_numbers(thing):
    """Whether thing is a tuple of numbers."""
    return isinstance(thing, tuple) and all(is_number(item) for item in thing)


def is_bit(thing):
    """Whether thing is 0 or 1."""
    return is_below(thing, 2)


def is_reading(thing):
    """Whether thing is 0, 1 or None."""
    return thing is None or is_bit(thing)


def is_row(thing):
    """Whether thing may stand where a list is expected."""
    return isinstance(thing, (list, tuple))


def is_tuple_of(thing, many):
    """Whether thing is a tuple of so many items."""
    return isinstance(thing, tuple) and len(thing) == many


def is_bits(thing, many):
    """Whether thing is a tuple of so many bits."""
    return is_tuple_of(thing, many) and all(is_bit(item) for item in thing)


def is_readings(thing, many):
    """Whether thing is a tuple of so many readings."""
    return is_tuple_of(thing, many) and all(is_reading(item) for item in thing)


def is_signal(thing):
    """Whether thing is a name of 1 to 8 letters a to z."""
    if not isinstance(thing, str) or not 1 <= len(thing) <= LONGEST_SIGNAL:
        return False
    return all(letter in LETTERS for letter in thing)


def bit_rows(many):
    """The ascending list of all tuples of so many bits."""
    rows = [()]
    for _ in range(many):
        rows = [row + (bit,) for row in rows for bit in (0, 1)]
    return rows


def reading_rows(many):
    """The ascending list of all tuples of so many readings."""
    rows = [()]
    for _ in range(many):
        rows = [row + (reading,) for row in rows for reading in (0, 1, None)]
    return rows


def completions(readings):
    """The ascending list of the tuples of bits that have a bit in the place of each None."""
    free = [reading for reading in readings if reading is None]
    return [tuple(filled(readings, row)) for row in bit_rows(len(free))]


def filled(readings, row):
    """The list of the readings, with the bits of row in the place of None, one by one."""
    told = []
    taken = 0
    for reading in readings:
        if reading is None:
            told.append(row[taken])
            taken += 1
        else:
            told.append(reading)
    return told
