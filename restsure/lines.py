"""Lines: gates read, or set, one behind the other."""

from restsure.cases import check_bits, check_case, gate_now
from restsure.circuits import check_circuit
from restsure.crowds import crowd_of, crowd_of_one, first_case
from restsure.errors import BadCases, BadLine, BadStart, TooMany, Unsure
from restsure.kinds import bit_rows, is_below, is_bits, is_row, is_tuple_of

MOST_STEPS = 20000
MOST_CASES = 4096
MOST_STARTED = 12


def is_line(circuit, thing):
    """Whether thing, any value, is a line of the circuit."""
    many = len(circuit[2])
    if not isinstance(thing, tuple) or len(thing) > MOST_STEPS:
        return False
    return all(is_below(item, many) for item in thing)


def check_line(circuit, line):
    """Raise BadCircuit or BadLine unless line is one of the circuit."""
    check_circuit(circuit)
    if not is_line(circuit, line):
        raise BadLine("not a line of the circuit")


def is_case(circuit, thing):
    """Whether thing, any value, is a pair of bits of the inputs and of the registers."""
    return is_tuple_of(thing, 2) and is_bits(thing[0], circuit[0]) and is_bits(thing[1], len(circuit[1]))


def check_cases(circuit, cases):
    """Raise BadCases unless cases are some of the circuit."""
    if not is_row(cases) or not 1 <= len(cases) <= MOST_CASES:
        raise BadCases("not a list of 1 to 4096 cases")
    if not all(is_case(circuit, case) for case in cases):
        raise BadCases("not a list of cases of the circuit")


def check_whole(crowd, gates):
    """Raise Unsure with the first case at which some gate has no reading."""
    index = first_case(crowd.unsettled(gates))
    if index is not None:
        raise Unsure(index)


def read_along(circuit, line, given, held):
    """The list of the readings of the gates in the end."""
    check_line(circuit, line)
    check_case(circuit, given, held)
    gates = [None] * len(circuit[2])
    for gate in line:
        gates[gate] = gate_now(circuit, gate, given, held, gates)
    return gates


def settles_all(crowd, line):
    """Whether the line settles all cases of the crowd."""
    gates = crowd.at_start()
    crowd.go_along(line, gates)
    return first_case(crowd.unsettled(gates)) is None


def line_settles(circuit, line, cases):
    """Whether the line settles all cases."""
    check_line(circuit, line)
    check_cases(circuit, cases)
    return settles_all(crowd_of(circuit, cases), line)


def line_of(crowd):
    """A line that settles all cases of the crowd; Unsure, TooMany."""
    gates, line = crowd.settle()
    check_whole(crowd, gates)
    if len(line) > MOST_STEPS:
        raise TooMany(MOST_STEPS)
    return tuple(line)


def line_for(circuit, cases):
    """A line that settles all cases."""
    check_circuit(circuit)
    check_cases(circuit, cases)
    return line_of(crowd_of(circuit, cases))


def laid_out(circuit):
    """The list, by gate, of the pairs (table, places), places of the sources among all bits.

    All bits are those of the gates, of the inputs, of the registers, then 0 and 1.
    """
    inputs, registers, gates, _ = circuit
    first = {"gate": 0, "in": len(gates), "reg": len(gates) + inputs}
    first["bit"] = first["reg"] + len(registers)
    return [(table, [first[kind] + at for kind, at in sources]) for sources, table in gates]


def bits_along(rows, line, given, held, start):
    """The list of the bits of the gates in the end, rows being what laid_out tells."""
    bits = list(start) + list(given) + list(held) + [0, 1]
    for gate in line:
        table, places = rows[gate]
        index = 0
        worth = 1
        for place in places:
            index = index + worth * bits[place]
            worth = worth * 2
        bits[gate] = table[index]
    return bits[:len(rows)]


def check_start(circuit, start):
    """Raise BadStart unless start has a bit for each gate."""
    if not is_bits(start, len(circuit[2])):
        raise BadStart("not a tuple of a bit for each gate")


def set_along(circuit, line, given, held, start):
    """The list of the bits of the gates in the end, from those of start."""
    check_line(circuit, line)
    check_bits(circuit, given, held)
    check_start(circuit, start)
    return bits_along(laid_out(circuit), line, given, held, start)


def asked_gates(circuit):
    """The ascending list of the gates that are told, or held next."""
    sources = list(circuit[3]) + [source for _, source in circuit[1]]
    return sorted(set([at for kind, at in sources if kind == "gate"]))


def outer_bits(circuit, case):
    """The tuple of the bits that the gates have of a case."""
    given, held = case
    told = []
    for sources, _ in circuit[2]:
        told.extend([given[at] for kind, at in sources if kind == "in"])
        told.extend([held[at] for kind, at in sources if kind == "reg"])
    return tuple(told)


def start_astray(circuit, line, case, wanted):
    """The first start from which the line does not bring the wanted (gate, bit), None without one."""
    starts = bit_rows(len(circuit[2]))
    crowd = crowd_of_one(circuit, len(starts), case[0], case[1])
    gates = [crowd.packed(list(column)) for column in columns_of(starts)]
    crowd.go_along(line, gates)
    astray = [0] * len(crowd.fulls)
    for gate, bit in wanted:
        astray = [mask | pair[bit] for mask, pair in zip(astray, gates[gate])]
    index = first_case(astray)
    return None if index is None else starts[index]


def columns_of(rows):
    """The list, by place, of the lists of what the rows have there."""
    return [[row[at] for row in rows] for at in range(len(rows[0]))]


def wrong_start(circuit, line, cases):
    """A case and a start from which the line does not bring what is told; None without one."""
    check_line(circuit, line)
    check_cases(circuit, cases)
    crowd = crowd_of(circuit, cases)
    sure, _ = crowd.settle()
    check_whole(crowd, sure)
    if len(circuit[2]) > MOST_STARTED:
        raise TooMany(MOST_STARTED)
    along = crowd.at_start()
    crowd.go_along(line, along)
    asked = asked_gates(circuit)
    wanted = [crowd.unpacked(sure[gate]) for gate in asked]
    brought = [crowd.unpacked(along[gate]) for gate in asked]
    seen = set()
    for index, case in enumerate(cases):
        # Cases that are the same to the gates go the same ways.
        key = outer_bits(circuit, case)
        if key in seen or all(row[index] is not None for row in brought):
            continue
        seen.add(key)
        start = start_astray(circuit, line, case, [(gate, row[index]) for gate, row in zip(asked, wanted)])
        if start is not None:
            return index, start
    return None
