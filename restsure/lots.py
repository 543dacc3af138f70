"""Lots of unsure gates, which hang on nothing but themselves."""

from restsure.cases import check_bits, sure_list
from restsure.circuits import MOST_SOURCES
from restsure.delays import MOST_STEPS
from restsure.errors import BadLot
from restsure.kinds import is_numbers, is_tuple_of
from restsure.knots import knots
from restsure.webs import Web, is_element_for, is_standing_for, step_watched, unsettled_now


class Live:
    """What matters to an unsure gate: its live places, their sources, and the table over these."""

    def __init__(self, places, sources, table):
        self.places = places
        self.sources = sources
        self.table = table


def free_places(sources, found):
    """The places whose sources are unsure gates."""
    return [place for place, (kind, at) in enumerate(sources) if kind == "gate" and found[at] is None]


def table_index(worths):
    """The index in a table for the bits of the sources."""
    index = 0
    for place, bit in enumerate(worths):
        index += bit << place
    return index


def sure_bits(circuit, gate, given, held, found):
    """The bits of the sources of a gate, 0 in the place of those that are unsure."""
    worths = []
    for kind, at in circuit[2][gate][0]:
        bit = at
        if kind == "in":
            bit = given[at]
        elif kind == "reg":
            bit = held[at]
        elif kind == "gate":
            bit = found[at]
        worths.append(0 if bit is None else bit)
    return worths


def narrowed(table, base, places):
    """The table over the bits at these places alone, base being the index for the other ones."""
    indexes = [base]
    for place in places:
        indexes = indexes + [index + (1 << place) for index in indexes]
    return tuple([table[index] for index in indexes])


def matters(table, place):
    """Whether exchanging the bit at this place alone ever exchanges the bit of the table."""
    worth = 1 << place
    return any([bit != table[index ^ worth] for index, bit in enumerate(table)])


def live_gate(circuit, gate, given, held, found):
    """What matters to an unsure gate, found being the sure readings."""
    sources, table = circuit[2][gate]
    base = table_index(sure_bits(circuit, gate, given, held, found))
    free = free_places(sources, found)
    over_free = narrowed(table, base, free)
    places = [place for offset, place in enumerate(free) if matters(over_free, offset)]
    return Live(places, [sources[place][1] for place in places], narrowed(table, base, places))


def live_gates(circuit, given, held):
    """The dict from the unsure gates, ascending, to what matters to them."""
    found = sure_list(circuit, given, held)
    return {gate: live_gate(circuit, gate, given, held, found)
            for gate, bit in enumerate(found) if bit is None}


def live_branches(circuit, given, held):
    """The ascending list of the branches at live places of unsure gates."""
    check_bits(circuit, given, held)
    lives = live_gates(circuit, given, held)
    return [("branch", gate, place) for gate in lives for place in lives[gate].places]


def least_lots(lives):
    """The ascending list of the lots without a lesser one within them."""
    # Each lot has with a gate all that this gate leads to, so a least one is a knot
    # that leads nowhere else.
    gates = list(lives)
    numbers = {gate: number for number, gate in enumerate(gates)}
    leads = [[numbers[source] for source in lives[gate].sources] for gate in gates]
    found = []
    for knot in knots(leads):
        lot = tuple([gates[number] for number in knot])
        if is_closed(lives, lot):
            found.append(lot)
    return sorted(found)


def is_closed(lives, lot):
    """Whether the lot has all gates that are sources at live places of its gates."""
    within = {gate: True for gate in lot}
    for gate in lot:
        for source in lives[gate].sources:
            if source not in within:
                return False
    return True


def own_lots(circuit, given, held):
    """The ascending list of the lots without a lesser one within them."""
    check_bits(circuit, given, held)
    return least_lots(live_gates(circuit, given, held))


def is_lot_of(lives, thing):
    """Whether thing is a lot, lives being what matters to the unsure gates."""
    if not is_numbers(thing) or not thing:
        return False
    if not all(gate in lives for gate in thing) or list(thing) != sorted(set(thing)):
        return False
    return is_closed(lives, thing)


def is_lot(circuit, given, held, thing):
    """Whether thing, any value, is a lot."""
    check_bits(circuit, given, held)
    return is_lot_of(live_gates(circuit, given, held), thing)


def lot_gates(lives, lot):
    """The gates of a lot, as pairs (sources, table), numbered within the lot."""
    numbers = {gate: number for number, gate in enumerate(lot)}
    gates = []
    for gate in lot:
        live = lives[gate]
        gates.append(([("gate", numbers[source]) for source in live.sources], live.table))
    return gates


def lot_names(lives, lot):
    """The list of the gates of a lot and their live branches, in the sequence of its web."""
    names = [("gate", gate) for gate in lot]
    for gate in lot:
        names.extend([("branch", gate, place) for place in lives[gate].places])
    return names


def is_loop_of(lives, lot, thing):
    """Whether thing, any value, is a fair loop of the lot."""
    if not is_tuple_of(thing, 2):
        return False
    standing, steps = thing
    if not is_standing_for([len(lives[gate].places) for gate in lot], standing):
        return False
    if not isinstance(steps, tuple) or not 1 <= len(steps) <= MOST_STEPS:
        return False
    numbers = {name: number for number, name in enumerate(lot_names(lives, lot))}
    # A bool within an element would be found among the keys as if it were a number.
    widths = [MOST_SOURCES] * (lot[-1] + 1)
    if not all(is_element_for(widths, step) and step in numbers for step in steps):
        return False
    return runs_round(Web(lot_gates(lives, lot), standing), [numbers[step] for step in steps])


def runs_round(web, steps):
    """Whether the steps are fair, change something, and lead back."""
    begun = web.standing()
    loose = unsettled_now(web)
    waiting = dict(loose)
    changes = False
    for at in steps:
        before = web.bits[at]
        step_watched(web, at, loose, waiting)
        if web.bits[at] != before:
            changes = True
    return changes and not waiting and web.standing() == begun


def is_fair_loop(circuit, given, held, lot, thing):
    """Whether thing, any value, is a fair loop of the lot."""
    check_bits(circuit, given, held)
    lives = live_gates(circuit, given, held)
    if not is_lot_of(lives, lot):
        raise BadLot("not a lot")
    return is_loop_of(lives, lot, thing)
