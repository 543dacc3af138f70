"""Straight codes: a circuit with a line that is gone along once in each instant."""

from restsure.circuits import is_circuit
from restsure.crowds import crowd_of
from restsure.errors import BadCode, BadRows, TooMany
from restsure.kinds import bit_rows, is_bits, is_row, is_tuple_of
from restsure.lines import MOST_CASES, bits_along, check_start, is_line, laid_out, line_of
from restsure.sureness import sure_reach
from restsure.wiring import circuit_of


def is_straight(thing):
    """Whether thing, any value, is a straight code."""
    return is_tuple_of(thing, 2) and is_circuit(thing[0]) and is_line(thing[0], thing[1])


def bits_now(sources, given, held, gates):
    """The tuple of the bits of these sources."""
    worth = {"in": given, "reg": held, "gate": gates, "bit": (0, 1)}
    return tuple([worth[kind][at] for kind, at in sources])


def run_straight(code, start, rows):
    """The list of the outputs, instant by instant."""
    if not is_straight(code):
        raise BadCode("not a straight code")
    circuit, line = code
    check_start(circuit, start)
    if not is_row(rows) or not all(is_bits(row, circuit[0]) for row in rows):
        raise BadRows("not a list of tuples of bits of the inputs")
    places = laid_out(circuit)
    following = [source for _, source in circuit[1]]
    held = tuple([bit for bit, _ in circuit[1]])
    gates = list(start)
    told = []
    for given in rows:
        gates = bits_along(places, line, given, held, gates)
        told.append(bits_now(circuit[3], given, held, gates))
        held = bits_now(following, given, held, gates)
    return told


def held_behind(circuit, cases):
    """The list, case by case, of what the registers hold next; the circuit is whole there."""
    crowd = crowd_of(circuit, cases)
    gates, _ = crowd.settle()
    columns = [crowd.unpacked(crowd.told(source, gates)) for _, source in circuit[1]]
    return [tuple([column[at] for column in columns]) for at in range(len(cases))]


def reached_cases(circuit):
    """The list of the cases that are reached from the beginning; TooMany(4096)."""
    rows = bit_rows(circuit[0])
    first = tuple([bit for bit, _ in circuit[1]])
    seen = {first: True}
    near = [first]
    cases = []
    while near:
        fresh = [(given, held) for held in near for given in rows]
        if len(cases) + len(fresh) > MOST_CASES:
            raise TooMany(MOST_CASES)
        cases.extend(fresh)
        near = []
        for held in held_behind(circuit, fresh):
            if held not in seen:
                seen[held] = True
                near.append(held)
    return cases


def code_of(program):
    """A straight code of the program's circuit."""
    sure_reach(program)
    circuit = circuit_of(program)
    return circuit, line_of(crowd_of(circuit, reached_cases(circuit)))
