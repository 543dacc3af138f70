"""Standings of a circuit whose gates and branches take any time they like."""

from restsure.cases import check_bits
from restsure.circuits import check_circuit
from restsure.errors import BadElement, BadPicks, BadStanding, BadSteps
from restsure.kinds import is_number, is_row
from restsure.webs import Web, is_element_for, is_standing_for

MOST_STEPS = 20000


def gate_widths(circuit):
    """The list of the numbers of sources of the gates."""
    return [len(sources) for sources, _ in circuit[2]]


def bound(source, given, held):
    """The source, its bit told if it is an input or a register."""
    kind, at = source
    if kind == "in":
        return ("bit", given[at])
    if kind == "reg":
        return ("bit", held[at])
    return source


def web_of(circuit, given, held, standing):
    """The web of the circuit in this standing."""
    gates = []
    for sources, table in circuit[2]:
        gates.append(([bound(source, given, held) for source in sources], table))
    return Web(gates, standing)


def check_standing(circuit, given, held, standing):
    """Raise the error of the first one that is wrong."""
    check_bits(circuit, given, held)
    if not is_standing_for(gate_widths(circuit), standing):
        raise BadStanding("not a standing of the circuit")


def check_steps(circuit, given, held, standing, steps):
    """Raise the error of the first one that is wrong."""
    check_standing(circuit, given, held, standing)
    if not is_row(steps) or len(steps) > MOST_STEPS:
        raise BadSteps("not a list of steps")
    widths = gate_widths(circuit)
    if not all(is_element_for(widths, item) for item in steps):
        raise BadSteps("not a list of gates and branches")


def element_list(circuit):
    """The list of the gates, then of the branches, ascending."""
    check_circuit(circuit)
    told = [("gate", gate) for gate in range(len(circuit[2]))]
    for gate, width in enumerate(gate_widths(circuit)):
        told.extend([("branch", gate, place) for place in range(width)])
    return told


def is_standing(circuit, thing):
    """Whether thing, any value, gives each gate and each branch a bit."""
    check_circuit(circuit)
    return is_standing_for(gate_widths(circuit), thing)


def comes_to(circuit, given, held, standing, element):
    """The bit to which a gate or a branch comes."""
    check_standing(circuit, given, held, standing)
    if not is_element_for(gate_widths(circuit), element):
        raise BadElement("not a gate or a branch of the circuit")
    web = web_of(circuit, given, held, standing)
    return web.wanted(web.number(element))


def unsettled(circuit, given, held, standing):
    """The list of the gates and branches that do not have the bit to which they come."""
    check_standing(circuit, given, held, standing)
    web = web_of(circuit, given, held, standing)
    return [web.named(at) for at in range(len(web.bits)) if not web.is_settled(at)]


def stepped(circuit, given, held, standing, steps):
    """The standing behind these steps."""
    check_steps(circuit, given, held, standing, steps)
    web = web_of(circuit, given, held, standing)
    for element in steps:
        web.step(web.number(element))
    return web.standing()


def place_among(numbers, at):
    """How many of the ascending numbers are below at."""
    low = 0
    high = len(numbers)
    while low < high:
        middle = (low + high) // 2
        if numbers[middle] < at:
            low = middle + 1
        else:
            high = middle
    return low


def keep_loose(loose, at, is_settled):
    """Take at into the ascending list of what is not settled, or out of it."""
    place = place_among(loose, at)
    stands = place < len(loose) and loose[place] == at
    if stands and is_settled:
        loose.pop(place)
    elif not stands and not is_settled:
        loose.insert(place, at)


def woven(circuit, given, held, standing, picks):
    """The steps that the picks choose among what is not settled, and the standing behind them."""
    check_standing(circuit, given, held, standing)
    if not is_row(picks) or len(picks) > MOST_STEPS:
        raise BadPicks("not a list of picks")
    if not all(is_number(pick) and pick >= 0 for pick in picks):
        raise BadPicks("not a list of numbers from 0 on")
    web = web_of(circuit, given, held, standing)
    # Kept from step to step: to look at all of a great circuit at each step would take too long.
    loose = [at for at in range(len(web.bits)) if not web.is_settled(at)]
    steps = []
    for pick in picks:
        if not loose:
            break
        at = loose[pick % len(loose)]
        steps.append(web.named(at))
        web.step(at)
        for near in web.near(at):
            keep_loose(loose, near, web.is_settled(near))
    return tuple(steps), web.standing()
