"""Circuits: gates whose wires may run in rings, and registers."""

from restsure.errors import BadCircuit
from restsure.kinds import is_below, is_bit, is_bits, is_tuple_of
from restsure.knots import knots

MOST_INPUTS = 8
MOST_REGISTERS = 60
MOST_GATES = 2000
MOST_OUTPUTS = 60
MOST_SOURCES = 4


def is_tuple_up_to(thing, most):
    """Whether thing is a tuple of at most so many items."""
    return isinstance(thing, tuple) and len(thing) <= most


def is_source(thing, sizes):
    """Whether thing is a source where sizes are the numbers of inputs, registers, gates."""
    if not is_tuple_of(thing, 2):
        return False
    kind, at = thing
    if kind == "in":
        return is_below(at, sizes[0])
    if kind == "reg":
        return is_below(at, sizes[1])
    if kind == "gate":
        return is_below(at, sizes[2])
    return kind == "bit" and is_bit(at)


def is_register(thing, sizes):
    """Whether thing is a pair of a bit and a source."""
    return is_tuple_of(thing, 2) and is_bit(thing[0]) and is_source(thing[1], sizes)


def is_gate(thing, sizes):
    """Whether thing is a pair of sources and a table for them."""
    if not is_tuple_of(thing, 2):
        return False
    sources, table = thing
    if not is_tuple_up_to(sources, MOST_SOURCES):
        return False
    return is_bits(table, 1 << len(sources)) and all(is_source(item, sizes) for item in sources)


def is_circuit(thing):
    """Whether thing, any value, is a circuit."""
    if not is_tuple_of(thing, 4):
        return False
    inputs, registers, gates, outputs = thing
    if not is_below(inputs, MOST_INPUTS + 1) or not is_tuple_up_to(registers, MOST_REGISTERS):
        return False
    if not is_tuple_up_to(gates, MOST_GATES) or not is_tuple_up_to(outputs, MOST_OUTPUTS):
        return False
    sizes = (inputs, len(registers), len(gates))
    if not all(is_register(item, sizes) for item in registers):
        return False
    if not all(is_gate(item, sizes) for item in gates):
        return False
    return all(is_source(item, sizes) for item in outputs)


def check_circuit(circuit):
    """Raise BadCircuit unless circuit is one."""
    if not is_circuit(circuit):
        raise BadCircuit("not a circuit")


def first_held(circuit):
    """The bits of the registers at the beginning."""
    check_circuit(circuit)
    return tuple([bit for bit, _ in circuit[1]])


def gate_leads(circuit):
    """For each gate the list of the gates that are its sources."""
    return [[at for kind, at in sources if kind == "gate"] for sources, _ in circuit[2]]


def ringed(circuit):
    """The ascending list of the gates that lead back to themselves."""
    leads = gate_leads(circuit)
    found = []
    for lot in knots(leads):
        if len(lot) > 1 or lot[0] in leads[lot[0]]:
            found.extend(lot)
    return sorted(found)


def is_ringless(circuit):
    """Whether no gate leads back to itself."""
    check_circuit(circuit)
    return not ringed(circuit)


def ring_gates(circuit):
    """The ascending tuple of the gates that lead back to themselves."""
    check_circuit(circuit)
    return tuple(ringed(circuit))
