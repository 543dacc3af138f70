"""Circuits without rings, that do the same wherever those with rings are whole."""

from restsure.circuits import MOST_OUTPUTS, check_circuit, gate_leads
from restsure.errors import TooMany
from restsure.knots import knots
from restsure.makers import ONE, ZERO, Maker

NOT = (1, 0)
# An item of each of two pairs: of the first and the second source, of the third and the fourth.
BOTH_PAIRS = (0, 0, 0, 0, 0, 1, 1, 1, 0, 1, 1, 1, 0, 1, 1, 1)


def rings_told(circuit):
    """The list of the rings, each ascending, in the order in which they lean on one another.

    A ring stands behind those that it leans on; so does each other gate, a list of itself.
    """
    leads = gate_leads(circuit)
    told = []
    # Lots come by leads: one that leads to others ahead of these.
    for lot in reversed(knots(leads)):
        told.append((lot, len(lot) > 1 or lot[0] in leads[lot[0]]))
    return told


def rings_of(circuit):
    """The ascending list of the rings, each an ascending tuple of gates."""
    check_circuit(circuit)
    return sorted([tuple(lot) for lot, is_ring in rings_told(circuit) if is_ring])


class Unringing:
    """The gates made so far, and the sources that stand for those of a circuit.

    shown: by gate, the source that has its bit wherever the circuit is whole; whole: the sources
    all of which are 1 exactly if the circuit is.
    """

    def __init__(self, circuit):
        self.circuit = circuit
        self.maker = Maker()
        self.shown = {}
        self.whole = []

    def standing_for(self, source):
        """The source that stands for one of the circuit."""
        if source[0] == "gate":
            return self.shown[source[1]]
        return source

    def rails(self, source):
        """The pair of what is 1 if the source is surely 1, and if it is surely 0."""
        if source[0] == "bit":
            return (ONE, ZERO) if source[1] else (ZERO, ONE)
        return source, self.maker.gate((source,), NOT)

    def tell_once(self, gate):
        """Tell a gate that stands in no ring once."""
        sources, table = self.circuit[2][gate]
        self.shown[gate] = self.maker.gate([self.standing_for(source) for source in sources], table)

    def unroll(self, ring):
        """Tell a ring as often as it has gates, one lap behind the other."""
        # In each lap a gate becomes sure, or none does from then on.
        known = {gate: (ZERO, ZERO) for gate in ring}
        for _ in ring:
            known = {gate: self.next_rails(gate, known) for gate in ring}
        for gate in ring:
            self.shown[gate] = known[gate][0]
        self.whole.extend(self.sure_all([known[gate] for gate in ring]))

    def next_rails(self, gate, known):
        """The rails of a gate behind a lap, known being those of the ring ahead of it."""
        sources, table = self.circuit[2][gate]
        rows = []
        for source in sources:
            if source[0] == "gate" and source[1] in known:
                rows.append(known[source[1]])
            else:
                rows.append(self.rails(self.standing_for(source)))
        turned = tuple([1 - bit for bit in table])
        return self.surely(table, rows), self.surely(turned, rows)

    def surely(self, table, rows):
        """What is 1 exactly if the table has 1 at all places that the sources may put."""
        if min(table) == max(table):
            return ONE if table[0] else ZERO
        half = len(table) // 2
        low = self.surely(table[:half], rows[:-1])
        if table[:half] == table[half:]:
            return low
        high = self.surely(table[half:], rows[:-1])
        # The last source is surely not 1, or it is so for 1; and likewise for 0.
        one, zero = rows[-1]
        return self.either_pair(zero, high, one, low)

    def either_pair(self, zero, high, one, low):
        """(zero or high) and (one or low)."""
        if ONE in (zero, high):
            return self.maker.any_of([one, low]) if ONE not in (one, low) else ONE
        if ONE in (one, low):
            return self.maker.any_of([zero, high])
        if zero == ZERO and high == ZERO or one == ZERO and low == ZERO:
            return ZERO
        return self.maker.gate((zero, high, one, low), BOTH_PAIRS)

    def sure_all(self, rows):
        """Sources all of which are 1 exactly if all rows of rails have a 1."""
        told = []
        for at in range(0, len(rows) - 1, 2):
            told.append(self.maker.gate(rows[at] + rows[at + 1], BOTH_PAIRS))
        if len(rows) & 1:
            told.append(self.maker.any_of(rows[-1]))
        return told


def unringed(circuit):
    """A circuit without rings, whose last output tells whether circuit is whole."""
    check_circuit(circuit)
    inputs, registers, _, outputs = circuit
    if len(outputs) == MOST_OUTPUTS:
        raise TooMany(MOST_OUTPUTS)
    work = Unringing(circuit)
    for lot, is_ring in rings_told(circuit):
        if is_ring:
            work.unroll(lot)
        else:
            work.tell_once(lot[0])
    whole = work.maker.all_of(work.whole)
    following = tuple([(bit, work.standing_for(source)) for bit, source in registers])
    told = tuple([work.standing_for(source) for source in outputs])
    return inputs, following, tuple(work.maker.gates), told + (whole,)
