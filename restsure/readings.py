"""Readings of gates: what is sure of a circuit in a case, and papers that show it."""

from restsure.cases import check_bits, check_case, gate_now, source_reading, sure_laps, sure_list
from restsure.cases import table_reading
from restsure.circuits import check_circuit
from restsure.errors import BadReadings, BadRows, BadTable, TooMany
from restsure.kinds import bit_rows, is_below, is_bit, is_bits, is_numbers, is_reading, is_row
from restsure.kinds import is_tuple_of

MOST_SOLVED = 12
TABLE_SIZES = {1: 0, 2: 1, 4: 2, 8: 3, 16: 4}


def gate_reading(table, readings):
    """The reading of a gate with this table by the readings of its sources."""
    if not isinstance(table, tuple) or len(table) not in TABLE_SIZES:
        raise BadTable("not a tuple of 1, 2, 4, 8 or 16 bits")
    if not is_bits(table, len(table)):
        raise BadTable("not a tuple of bits")
    if not is_row(readings) or len(readings) != TABLE_SIZES[len(table)]:
        raise BadReadings("not a list of a reading for each source")
    if not all(is_reading(item) for item in readings):
        raise BadReadings("not a list of readings")
    return table_reading(table, readings)


def sure_readings(circuit, given, held):
    """The tuple of the sure readings of the gates."""
    check_case(circuit, given, held)
    return tuple(sure_list(circuit, given, held))


def is_whole(circuit, given, held):
    """Whether no gate stays unsure."""
    check_case(circuit, given, held)
    return None not in sure_list(circuit, given, held)


def sure_order(circuit, given, held):
    """The tuple of the pairs (gate, bit) in the sequence in which they become sure."""
    check_case(circuit, given, held)
    return tuple([pair for lap in sure_laps(circuit, given, held) for pair in lap])


def told_by(circuit, given, held, order):
    """The list of the readings of the gates behind order, None unless it is one."""
    gates = circuit[2]
    if not isinstance(order, tuple):
        return None
    found = [None] * len(gates)
    for pair in order:
        if not is_tuple_of(pair, 2) or not is_below(pair[0], len(gates)) or not is_bit(pair[1]):
            return None
        gate, bit = pair
        if found[gate] is not None or gate_now(circuit, gate, given, held, found) != bit:
            return None
        found[gate] = bit
    return found


def is_order(circuit, given, held, thing):
    """Whether thing, any value, shows bit by bit that its gates are sure."""
    check_case(circuit, given, held)
    return told_by(circuit, given, held, thing) is not None


def unsure_among(found):
    """The ascending tuple of the gates that have no bit in the list found."""
    return tuple([gate for gate, bit in enumerate(found) if bit is None])


def closed_lot(circuit, given, held):
    """The ascending tuple of the gates that stay unsure."""
    check_case(circuit, given, held)
    return unsure_among(sure_list(circuit, given, held))


def is_closed_lot(circuit, given, held, order, lot):
    """Whether order is an order, and lot all other gates, none of which is sure behind it."""
    check_case(circuit, given, held)
    found = told_by(circuit, given, held, order)
    if found is None or not is_numbers(lot) or lot != unsure_among(found):
        return False
    return all(gate_now(circuit, gate, given, held, found) is None for gate in lot)


def instant_of(circuit, given, held):
    """What instant tells, of bits that are known to be right."""
    found = sure_list(circuit, given, held)
    if None in found:
        return None
    outputs = [source_reading(source, given, held, found) for source in circuit[3]]
    following = [source_reading(source, given, held, found) for _, source in circuit[1]]
    return tuple(outputs), tuple(following)


def instant(circuit, given, held):
    """The bits of the outputs and the next ones of the registers, None if it is not whole."""
    check_bits(circuit, given, held)
    return instant_of(circuit, given, held)


def run_circuit(circuit, rows):
    """The outputs row by row, and None, or the index of the first row that is not whole."""
    check_circuit(circuit)
    if not is_row(rows) or not all(is_bits(row, circuit[0]) for row in rows):
        raise BadRows("not a list of tuples of bits of the inputs")
    held = tuple([bit for bit, _ in circuit[1]])
    told = []
    for index, given in enumerate(rows):
        both = instant_of(circuit, given, held)
        if both is None:
            return told, index
        outputs, held = both
        told.append(outputs)
    return told, None


def solutions(circuit, given, held):
    """The ascending list of all bits of the gates with which each gate agrees."""
    check_bits(circuit, given, held)
    many = len(circuit[2])
    if many > MOST_SOLVED:
        raise TooMany(MOST_SOLVED)
    rows = bit_rows(many)
    return [row for row in rows if agrees(circuit, given, held, row)]


def agrees(circuit, given, held, row):
    """Whether each gate has in row the bit to which it comes."""
    for gate, bit in enumerate(row):
        if gate_now(circuit, gate, given, held, row) != bit:
            return False
    return True
