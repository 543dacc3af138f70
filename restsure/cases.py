"""Cases of a circuit, and how its gates become sure lap by lap."""

from restsure.circuits import check_circuit
from restsure.errors import BadGiven, BadHeld
from restsure.kinds import is_bits, is_readings


def check_case(circuit, given, held):
    """Raise the error of the first one that is wrong; given and held are readings."""
    check_circuit(circuit)
    if not is_readings(given, circuit[0]):
        raise BadGiven("not a tuple of readings of the inputs")
    if not is_readings(held, len(circuit[1])):
        raise BadHeld("not a tuple of readings of the registers")


def check_bits(circuit, given, held):
    """Raise the error of the first one that is wrong; given and held are bits."""
    check_circuit(circuit)
    if not is_bits(given, circuit[0]):
        raise BadGiven("not a tuple of bits of the inputs")
    if not is_bits(held, len(circuit[1])):
        raise BadHeld("not a tuple of bits of the registers")


def source_reading(source, given, held, gates):
    """The reading of a source, gates being the readings of the gates."""
    kind, at = source
    if kind == "in":
        return given[at]
    if kind == "reg":
        return held[at]
    if kind == "gate":
        return gates[at]
    return at


def table_reading(table, readings):
    """The bit that table has for all bits in the place of None, None if it has both."""
    places = [0]
    worth = 1
    for reading in readings:
        if reading is None:
            places = places + [place + worth for place in places]
        elif reading == 1:
            places = [place + worth for place in places]
        worth = worth * 2
    bits = [table[place] for place in places]
    if min(bits) == max(bits):
        return bits[0]
    return None


def gate_now(circuit, gate, given, held, gates):
    """The reading of a gate by the case and the readings of the gates."""
    sources, table = circuit[2][gate]
    return table_reading(table, [source_reading(item, given, held, gates) for item in sources])


def gate_readers(circuit):
    """For each gate the list of the gates that have it as a source."""
    readers = [[] for _ in circuit[2]]
    for gate, (sources, _) in enumerate(circuit[2]):
        for kind, at in sources:
            if kind == "gate":
                readers[at].append(gate)
    return readers


def sure_laps(circuit, given, held):
    """The list, lap by lap, of the ascending lists of pairs (gate, bit) that become sure."""
    readers = gate_readers(circuit)
    found = [None] * len(circuit[2])
    waiting = list(range(len(circuit[2])))
    told = []
    while True:
        lap = []
        for gate in waiting:
            reading = gate_now(circuit, gate, given, held, found)
            if reading is not None:
                lap.append((gate, reading))
        if not lap:
            return told
        told.append(lap)
        for gate, bit in lap:
            found[gate] = bit
        # Only a gate with a source that is new can have a reading that is new.
        near = [reader for gate, _ in lap for reader in readers[gate] if found[reader] is None]
        waiting = sorted(set(near))


def sure_list(circuit, given, held):
    """The list of the sure readings of the gates."""
    found = [None] * len(circuit[2])
    for lap in sure_laps(circuit, given, held):
        for gate, bit in lap:
            found[gate] = bit
    return found
