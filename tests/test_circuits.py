from restsure.circuits import first_held, is_circuit, is_ringless, ring_gates
from restsure.errors import BadCircuit
from tests import drawn, plainly
from tests.contract import Contract
from tests.values import changed, every_kind, with_lists

SMALL = drawn.BY_HAND + drawn.lots_of(60)


def ring_by_steps(circuit):
    """The gates that lead back to themselves, by all ways of sources."""
    leads = [{at for kind, at in sources if kind == "gate"} for sources, _ in circuit[2]]
    found = []
    for gate in range(len(leads)):
        met, todo = set(), list(leads[gate])
        while todo:
            node = todo.pop()
            if node not in met:
                met.add(node)
                todo += leads[node]
        if gate in met:
            found.append(gate)
    return tuple(found)


class IsCircuit(Contract):
    def test_drawn_and_by_hand(self):
        for circuit in SMALL:
            self.assertIs(self.kept(is_circuit, ("thing",), (circuit,)), True)

    def test_values_of_every_kind(self):
        told = self.judges(is_circuit, plainly.circuit, every_kind())
        self.assertEqual(told[True], 1)

    def test_one_thing_otherwise(self):
        for circuit in (drawn.COUNTER, drawn.SELF_AND, drawn.HELD_RING):
            told = self.judges(is_circuit, plainly.circuit, list(changed(circuit)))
            self.assertGreater(told[False], 150)
            self.assertGreater(told[True], 20)

    def test_lists_where_tuples_must_be(self):
        for circuit in (drawn.COUNTER, drawn.HELD_RING):
            for depth in range(5):
                self.assertFalse(is_circuit(with_lists(circuit, depth)))

    def test_bools_at_every_depth(self):
        good = (1, ((0, ("bit", 1)),), (((("in", 0),), (0, 1)), ((("gate", 0),), (1, 0))), (("reg", 0), ("gate", 1)))
        self.assertTrue(is_circuit(good))
        for bad in [(True,) + good[1:], (1, ((False, ("bit", 1)),)) + good[2:], (1, ((0, ("bit", True)),)) + good[2:],
                    good[:2] + ((((("in", False),), (0, 1)), good[2][1]),) + good[3:],
                    good[:2] + ((good[2][0], ((("gate", False),), (1, 0))),) + good[3:],
                    good[:2] + ((good[2][0], ((("gate", 0),), (True, 0))),) + good[3:],
                    good[:3] + ((("reg", False), ("gate", 1)),), good[:3] + ((("reg", 0), ("gate", True)),)]:
            self.assertFalse(is_circuit(bad), bad)

    def test_edges(self):
        bit, gate = ("bit", 0), ((), (0,))
        reg = (0, ("bit", 1))
        for inputs in range(9):
            self.assertTrue(is_circuit((inputs, (), (), ())))
        self.assertFalse(is_circuit((9, (), (), ())))
        self.assertFalse(is_circuit((-1, (), (), ())))
        self.assertTrue(is_circuit((0, (reg,) * 60, (), ())))
        self.assertFalse(is_circuit((0, (reg,) * 61, (), ())))
        self.assertTrue(is_circuit((0, (), (gate,) * 2000, ())))
        self.assertFalse(is_circuit((0, (), (gate,) * 2001, ())))
        self.assertTrue(is_circuit((0, (), (), (bit,) * 60)))
        self.assertFalse(is_circuit((0, (), (), (bit,) * 61)))
        for many in range(5):
            self.assertTrue(is_circuit((0, (), (((bit,) * many, (0,) * 2 ** many),), ())))
            self.assertFalse(is_circuit((0, (), (((bit,) * many, (0,) * (2 ** many + 1)),), ())))
            self.assertFalse(is_circuit((0, (), (((bit,) * many, (0,) * (2 ** many - 1)),), ())))
        self.assertFalse(is_circuit((0, (), (((bit,) * 5, (0,) * 32),), ())))

    def test_sources_that_are_not_there(self):
        for source in [("in", 2), ("in", -1), ("reg", 2), ("gate", 4), ("gate", -1), ("bit", 2), ("bit", -1), ("out", 0)]:
            self.assertFalse(is_circuit(drawn.COUNTER[:3] + ((source,),)), source)
            self.assertFalse(is_circuit((2, ((0, source),) + drawn.COUNTER[1][1:]) + drawn.COUNTER[2:]), source)
        for source in [("in", 1), ("reg", 1), ("gate", 3), ("bit", 1)]:
            self.assertTrue(is_circuit(drawn.COUNTER[:3] + ((source,),)), source)
        self.assertFalse(is_circuit((0, (), (), (("in", 0),))))


class FirstHeldAndRings(Contract):
    def test_first_held(self):
        self.assertEqual(first_held(drawn.COUNTER), (0, 1))
        self.assertEqual(first_held(drawn.EMPTY), ())
        for circuit in SMALL:
            told = self.kept(first_held, ("circuit",), (circuit,))
            self.assertEqual(told, tuple(bit for bit, _ in circuit[1]))

    def test_rings(self):
        for circuit in SMALL + drawn.lots_of(200, most_gates=7, most_sources=2):
            gates = self.kept(ring_gates, ("circuit",), (circuit,))
            self.assertEqual(gates, ring_by_steps(circuit))
            self.assertIsInstance(gates, tuple)
            self.assertIs(self.kept(is_ringless, ("circuit",), (circuit,)), gates == ())

    def test_rings_by_hand(self):
        self.assertEqual(ring_gates(drawn.SELF_AND), (0,))
        self.assertEqual(ring_gates(drawn.EVEN_FIRST), (0, 1, 2))
        self.assertEqual(ring_gates(drawn.ODD_RING), (1, 2))
        self.assertEqual(ring_gates(drawn.COUNTER), ())
        self.assertTrue(is_ringless(drawn.EMPTY))
        # A way through a register is no ring.
        self.assertTrue(is_ringless((0, ((0, ("gate", 0)),), (((("reg", 0),), drawn.NOT),), ())))
        # A gate between two rings stands in none.
        between = (0, (), (((("gate", 0),), (0, 1)), ((("gate", 0),), (0, 1)), ((("gate", 1), ("gate", 2)), drawn.OR)), ())
        self.assertEqual(ring_gates(between), (0, 2))

    def test_great_ones(self):
        self.assertEqual(ring_gates((0, (), drawn.ring(2000, 1), ())), tuple(range(2000)))
        self.assertTrue(is_ringless((0, (), drawn.wires(2000), ())))

    def test_wrong_circuits(self):
        for function in (first_held, is_ringless, ring_gates):
            for circuit in (drawn.COUNTER, drawn.SELF_AND):
                self.wrong_values(function, (circuit,), 0, BadCircuit, plainly.circuit, least=150)
            self.refuses(BadCircuit, function, ((0, (), drawn.wires(2000) + drawn.wires(1), ()),))
