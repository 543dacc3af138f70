import itertools
import random

from restsure.circuits import is_circuit, is_ringless, ring_gates
from restsure.errors import BadCircuit, TooMany
from restsure.readings import instant
from restsure.unringed import rings_of, unringed
from restsure.wiring import circuit_of
from tests import drawn, drawnprograms, plainly
from tests.contract import Contract
from tests.drawn import AND, OR, SAME, UNLIKE

DRAWN = drawn.lots_of(260) + drawn.lots_of(120, most_gates=8, most_sources=4) + drawn.BY_HAND


def plain_rings(circuit):
    """The rings, by all pairs of gates that lead to each other by one or more steps."""
    many = len(circuit[2])
    leads = {(g, at) for g, (sources, _) in enumerate(circuit[2]) for kind, at in sources if kind == "gate"}
    for middle, one, other in itertools.product(range(many), repeat=3):
        if (one, middle) in leads and (middle, other) in leads:
            leads.add((one, other))
    lots = {tuple(h for h in range(many) if (g, h) in leads and (h, g) in leads) for g in range(many)}
    return sorted(lot for lot in lots if lot)


def random_circuit(seed, many, ringed, outputs=4):
    """A circuit of so many gates, at most the first ringed ones of them in rings."""
    rng = random.Random(seed)
    rows = []
    for gate in range(many):
        near = range(ringed) if gate < ringed else range(gate)
        sources = []
        for _ in range(rng.randint(1, 4) if seed % 3 else 4):
            kind = rng.choice(["gate"] * 3 + ["in", "reg"]) if near else "in"
            sources.append((kind, rng.choice(list(near)) if kind == "gate" else rng.randrange(2)))
        rows.append((tuple(sources), tuple(rng.randint(0, 1) for _ in range(2 ** len(sources)))))
    places = [("gate", rng.randrange(many)) for _ in range(outputs + 2)]
    return 2, ((0, places[0]), (1, places[1])), tuple(rows), tuple(places[2:])


class Rings(Contract):
    def test_drawn(self):
        seen = {}
        for circuit in DRAWN:
            told = self.kept(rings_of, ("circuit",), (circuit,))
            self.assertEqual(repr(told), repr(plain_rings(circuit)))
            self.assertEqual(sorted(gate for ring in told for gate in ring), list(ring_gates(circuit)))
            seen[len(told)] = seen.get(len(told), 0) + 1
        self.assertGreater(min(seen[many] for many in (0, 1, 2)), 20)

    def test_by_hand(self):
        self.assertEqual(rings_of(drawn.SELF_AND), [(0,)])
        self.assertEqual(rings_of(drawn.EMPTY), [])
        self.assertEqual(rings_of(drawn.COUNTER), [])
        self.assertEqual(rings_of(drawn.EVEN_FIRST), [(0,), (1, 2)])
        # One ring that leans on another, and two that meet at no gate.
        gates = ((("gate", 2), ("gate", 1)), (("gate", 0),), (("gate", 3),), (("gate", 2),), (("gate", 4), ("gate", 0)), (("gate", 0),))
        circuit = (0, (), tuple((sources, (0, 1) * (2 ** len(sources) // 2)) for sources in gates), ())
        self.assertEqual(rings_of(circuit), [(0, 1), (2, 3), (4,)])

    def test_great_ones(self):
        self.assertEqual(rings_of((0, (), drawn.ring(2000, 1), ())), [tuple(range(2000))])
        self.assertEqual(rings_of((0, (), drawn.wires(2000), ())), [])


class Unringed(Contract):
    def does_the_same(self, circuit, cases=None):
        """What comes has no rings, and does the same; how many of these cases are whole."""
        made = unringed(circuit)
        self.assertTrue(is_circuit(made))
        self.assertTrue(is_ringless(made))
        self.assertEqual(made[0], circuit[0])
        self.assertEqual([bit for bit, _ in made[1]], [bit for bit, _ in circuit[1]])
        self.assertEqual(len(made[3]), len(circuit[3]) + 1)
        whole = 0
        if cases is None:
            cases = itertools.product(plainly.all_bits(circuit[0]), plainly.all_bits(len(circuit[1])))
        for given, held in cases:
            told, wanted = instant(made, given, held), instant(circuit, given, held)
            self.assertEqual(told[0][-1], int(wanted is not None))
            if wanted is not None:
                self.assertEqual((told[0][:-1], told[1]), wanted)
                whole += 1
        return whole, len(made[2])

    def test_drawn(self):
        whole, cases = 0, 0
        for circuit in DRAWN:
            self.kept(unringed, ("circuit",), (circuit,))
            whole += self.does_the_same(circuit)[0]
            cases += 2 ** (circuit[0] + len(circuit[1]))
        self.assertGreater(whole, 500)
        self.assertGreater(cases - whole, 500)

    def test_all_small_gates_that_lean_on_themselves(self):
        for table in plainly.all_bits(4):
            for sources in ((("gate", 0), ("in", 0)), (("in", 0), ("gate", 0)), (("gate", 0), ("gate", 0)), (("gate", 0), ("bit", 1))):
                self.does_the_same((1, (), ((sources, table),), (("gate", 0),)))
        for table in plainly.all_bits(8):
            self.does_the_same((2, (), (((("gate", 0), ("in", 0), ("in", 1)), table),), (("gate", 0),)))

    def test_two_gates(self):
        for one, other in itertools.product(plainly.all_bits(4), repeat=2):
            gates = (((("gate", 1), ("in", 0)), one), ((("in", 1), ("gate", 0)), other))
            self.does_the_same((2, ((0, ("gate", 0)),), gates, (("gate", 1),)))

    def test_rings_that_lean_on_rings(self):
        # Each one lets the next one come to rest, or does not.
        gates = []
        for at in range(5):
            ahead = ("in", 0) if at == 0 else ("gate", 2 * at - 1)
            gates.append(((ahead, ("gate", 2 * at + 1)), (AND, OR)[at % 2]))
            gates.append(((("gate", 2 * at), ("in", 1)), (OR, AND)[at % 2]))
        circuit = (2, ((0, ("gate", 9)), (1, ("gate", 0))), tuple(gates), (("gate", 4), ("gate", 9)))
        whole, _ = self.does_the_same(circuit)
        self.assertGreater(whole, 0)

    def test_gates_off_the_rings_do_not_matter_to_the_whole(self):
        # Unsure gates, and a sure one behind them: it is not whole all the same.
        for table in (AND, OR, UNLIKE, (0, 0, 0, 0), (1, 1, 1, 1)):
            self.does_the_same((1, (), (((("gate", 0),), SAME), ((("gate", 0), ("in", 0)), table)), (("gate", 1),)))
        self.assertEqual(instant(unringed((0, (), (((("gate", 0),), (1, 1)),), ())), (), ())[0], (1,))

    def test_no_gates_and_no_rings(self):
        self.assertEqual(self.does_the_same(drawn.EMPTY), (1, 0))
        self.does_the_same((2, ((1, ("in", 1)), (0, ("reg", 0))), (), (("in", 0), ("bit", 1), ("reg", 1))))
        for circuit in (drawn.COUNTER, (0, (), drawn.wires(300), (("gate", 299),))):
            whole, many = self.does_the_same(circuit)
            self.assertEqual(whole, 2 ** (circuit[0] + len(circuit[1])))
            self.assertLessEqual(many, 2000)

    def test_outputs(self):
        for many in (58, 59):
            self.does_the_same((1, (), drawn.SELF_AND[2], (("gate", 0),) * many))
        for gates in (drawn.SELF_AND[2], (), drawn.ring(1500, 1)):
            with self.assertRaises(TooMany) as caught:
                unringed((1, (), gates, (("in", 0),) * 60))
            self.assertEqual(caught.exception.most, 60)

    def test_thirty_gates_of_which_six_stand_in_rings(self):
        rng = random.Random(9)
        most = 0
        for seed in range(250):
            circuit = random_circuit(seed, 30, 6)
            self.assertLessEqual(len(ring_gates(circuit)), 6)
            cases = [((rng.randint(0, 1), rng.randint(0, 1)), (rng.randint(0, 1), rng.randint(0, 1))) for _ in range(4)]
            most = max(most, self.does_the_same(circuit, cases)[1])
        self.assertLessEqual(most, 2000)
        for seed in range(40):
            self.does_the_same(random_circuit(seed, 20, 1 + seed % 12), cases)

    def test_great_ones(self):
        for gates in (drawn.wires(2000), drawn.ring(40, 1), drawn.ring(30, 2) + drawn.wires(0)):
            self.does_the_same((0, (), gates, (("gate", 3),)))
        for many, turns in ((2000, 1), (2000, 0), (600, 3)):
            try:
                self.does_the_same((0, (), drawn.ring(many, turns), ()))
            except TooMany as error:
                self.assertEqual(error.most, 2000)
        # Each gate has sources of its own: what is told as often as there are gates is too much.
        rng = random.Random(2)
        gates = tuple((tuple(("gate", rng.randrange(400)) for _ in range(3)) + (("in", rng.randrange(8)),),
                       tuple(rng.randint(0, 1) for _ in range(16))) for _ in range(400))
        with self.assertRaises(TooMany) as caught:
            unringed((8, (), gates, ()))
        self.assertEqual(caught.exception.most, 2000)

    def test_circuits_of_programs(self):
        rng = random.Random(6)
        for prog in drawnprograms.whirls(60, start=900):
            circuit = circuit_of(prog)
            try:
                made = unringed(circuit)
            except TooMany as error:
                self.assertEqual(error.most, 2000)
                continue
            held = tuple(bit for bit, _ in circuit[1])
            for _ in range(6):
                given = (rng.randint(0, 1), rng.randint(0, 1))
                both = instant(circuit, given, held)
                told = instant(made, given, held)
                self.assertEqual(told[0][-1], int(both is not None))
                if both is None:
                    break
                self.assertEqual((told[0][:-1], told[1]), both)
                held = both[1]

    def test_wrong_ones(self):
        for function in (rings_of, unringed):
            for circuit in (drawn.SELF_AND, drawn.HELD_RING):
                self.wrong_values(function, (circuit,), 0, BadCircuit, plainly.circuit, least=100)
