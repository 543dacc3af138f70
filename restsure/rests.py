"""Whether a circuit comes to one rest, with what shows it."""

from restsure.cases import check_bits, gate_now, sure_laps, sure_list
from restsure.errors import TooMany
from restsure.kinds import bit_rows, filled, is_bits, is_number, is_tuple_of
from restsure.lots import is_loop_of, is_lot_of, least_lots, live_gates, table_index
from restsure.swings import fair_loop, only_raises_itself

MOST_UNSURE = 12


def stands(circuit, given, held, unsure, bits):
    """Whether the unsure gates have among bits the ones to which they come."""
    return all(gate_now(circuit, gate, given, held, bits) == bits[gate] for gate in unsure)


def rests(circuit, given, held):
    """The ascending list of the bits of the gates that are at rest."""
    check_bits(circuit, given, held)
    found = sure_list(circuit, given, held)
    unsure = [gate for gate, bit in enumerate(found) if bit is None]
    if len(unsure) > MOST_UNSURE:
        raise TooMany(MOST_UNSURE)
    told = []
    for row in bit_rows(len(unsure)):
        bits = tuple(filled(found, row))
        if stands(circuit, given, held, unsure, bits):
            told.append(bits)
    return told


def settles(circuit, given, held):
    """("yes", the greatest lap), or ("no", what shows it)."""
    check_bits(circuit, given, held)
    lives = live_gates(circuit, given, held)
    if not lives:
        return "yes", len(sure_laps(circuit, given, held))
    lot = least_lots(lives)[0]
    if only_raises_itself(lives, lot):
        return "no", (lot, "rests", ((0,), (1,)))
    return "no", (lot, "loop", fair_loop(lives, lot))


def is_rest_of(lives, lot, bits):
    """Whether the lot is at rest with these bits of its gates."""
    told = {gate: bit for gate, bit in zip(lot, bits)}
    for gate in lot:
        live = lives[gate]
        if live.table[table_index([told[source] for source in live.sources])] != told[gate]:
            return False
    return True


def are_two_rests(lives, lot, thing):
    """Whether thing, any value, is a pair of two rests of the lot."""
    if not is_tuple_of(thing, 2) or not all(is_bits(bits, len(lot)) for bits in thing):
        return False
    return thing[0] != thing[1] and all(is_rest_of(lives, lot, bits) for bits in thing)


def is_against(lives, thing):
    """Whether thing, any value, is a lot with two rests or a fair loop."""
    if not is_tuple_of(thing, 3) or not is_lot_of(lives, thing[0]):
        return False
    lot, word, shown = thing
    if word == "rests":
        return are_two_rests(lives, lot, shown)
    return word == "loop" and is_loop_of(lives, lot, shown)


def is_settling(circuit, given, held, thing):
    """Whether thing, any value, shows that the circuit comes to one rest, or that it does not."""
    check_bits(circuit, given, held)
    if not is_tuple_of(thing, 2):
        return False
    lives = live_gates(circuit, given, held)
    if thing[0] == "yes":
        return not lives and is_number(thing[1]) and thing[1] == len(sure_laps(circuit, given, held))
    return thing[0] == "no" and is_against(lives, thing[1])
