import itertools
import random

from restsure.errors import BadCircuit, BadGiven, BadHeld, BadReadings, BadRows, BadTable, TooMany
from restsure.readings import (closed_lot, gate_reading, instant, is_closed_lot, is_order, is_whole, run_circuit,
                               solutions, sure_order, sure_readings)
from tests import drawn, plainly
from tests.contract import Contract
from tests.values import changed, every_kind

CASE = ("circuit", "given", "held")
SMALL = drawn.BY_HAND + drawn.lots_of(80)


def cases(circuits, readings=True):
    """Triples of a circuit and readings, or bits, for its inputs and registers."""
    for circuit in circuits:
        kinds = plainly.all_readings if readings else plainly.all_bits
        both = list(itertools.product(kinds(circuit[0]), kinds(len(circuit[1]))))
        for given, held in both if len(both) <= 16 else random.Random(7).sample(both, 16):
            yield circuit, given, held


def bad_case(test, function, more=(), bits=False):
    """What is refused of circuit, given, held, for functions with more arguments behind."""
    right = plainly.bits if bits else plainly.readings
    args = (drawn.COUNTER, (0, 1), (1, 0)) + more
    test.wrong_values(function, args, 0, BadCircuit, plainly.circuit, least=150)
    others = [(0, 1, 0), (None, 0), (0, None), (True, 0), (0, False), [0, 1], (0, 2), (-1, 0), (0,), ()]
    test.wrong_values(function, args, 1, BadGiven, lambda x: right(x, 2), more=others, least=100)
    test.wrong_values(function, args, 2, BadHeld, lambda x: right(x, 2), more=others, least=100)
    for place, error in ((1, BadGiven), (2, BadHeld)):
        for value in ((None, 0), (0, None), (None, None)):
            args = ((drawn.COUNTER, (0, 1), (1, 0))[:place] + (value,) + (drawn.COUNTER, (0, 1), (1, 0))[place + 1:])
            if bits:
                test.refuses(error, function, args + more)
            else:
                function(*args + more)
    test.first_error(function, (drawn.COUNTER, (0, 1), (1, 0)) + more, (BadCircuit, BadGiven, BadHeld))


class GateReading(Contract):
    def test_all_tables_of_two_and_drawn_ones(self):
        rng = random.Random(3)
        tables = [t for many in (1, 2, 4) for t in itertools.product((0, 1), repeat=many)]
        tables += [tuple(rng.randint(0, 1) for _ in range(many)) for many in (8, 16) for _ in range(20)]
        for table in tables:
            for row in plainly.all_readings(len(table).bit_length() - 1):
                told = self.kept(gate_reading, ("table", "readings"), (table, list(row)))
                self.assertEqual(repr(told), repr(plainly.reading(table, row)))
                self.alike_lists(gate_reading, (table, row), 1)

    def test_by_hand(self):
        self.assertEqual(gate_reading((1,), []), 1)
        self.assertEqual(gate_reading(drawn.AND, [0, None]), 0)
        self.assertEqual(gate_reading(drawn.OR, [None, 1]), 1)
        self.assertIsNone(gate_reading(drawn.UNLIKE, [None, None]))
        # The index is b0 + 2 b1 + 4 b2 + 8 b3.
        for worths in plainly.all_bits(4):
            table = tuple(int(at == sum(b << k for k, b in enumerate(worths))) for at in range(16))
            self.assertEqual(gate_reading(table, worths), 1)

    def test_wrong_ones(self):
        def right(x):
            return isinstance(x, tuple) and len(x) in (1, 2, 4, 8, 16) and plainly.bits(x, len(x))

        self.wrong_values(gate_reading, ((0, 1, 1, 0), [0, None]), 0, BadTable, right, least=100,
                          more=[(), (0,) * 3, (0,) * 32, [0, 1, 1, 0], (0, True, 1, 0), (0, 1, 1, 2), (None,) * 4])
        self.wrong_values(gate_reading, ((0, 1, 1, 0), [0, None]), 1, BadReadings,
                          lambda x: type(x) in (list, tuple) and plainly.readings(tuple(x), 2), least=100,
                          more=[[0], [0, 1, 0], [0, True], [False, None], {0: 0, 1: 1}, "01", [0, 2], [0, "1"]])
        for many in range(6):
            if many != 2:
                self.refuses(BadReadings, gate_reading, ((0, 1, 1, 0), [0] * many))
        self.first_error(gate_reading, ((0, 1), [0]), (BadTable, BadReadings))


class Sure(Contract):
    def test_readings_order_lot(self):
        for args in cases(SMALL):
            gates, _ = plainly.laps(*args)
            told = self.kept(sure_readings, CASE, args)
            self.assertEqual(repr(told), repr(tuple(gates)))
            self.assertIs(self.kept(is_whole, CASE, args), None not in gates)
            lot = self.kept(closed_lot, CASE, args)
            self.assertEqual(lot, tuple(at for at, bit in enumerate(gates) if bit is None))
            order = self.kept(sure_order, CASE, args)
            laps = plainly.laps(*args)[1]
            wanted = sorted((lap, at, gates[at]) for at, lap in enumerate(laps) if lap is not None)
            self.assertEqual(order, tuple((at, bit) for _, at, bit in wanted))
            self.assertTrue(is_order(*args, order))
            self.assertTrue(is_closed_lot(*args, order, lot))

    def test_they_are_the_least_that_agree(self):
        # Facts of point 11: whatever readings agree have the sure bits; more known leaves sure bits.
        for circuit, given, held in cases(drawn.BY_HAND + drawn.lots_of(40, most_gates=4)):
            sure = sure_readings(circuit, given, held)
            for gates in plainly.all_readings(len(circuit[2])):
                if all(plainly.gate_reading(circuit, at, given, held, gates) == bit and
                       (bit is None) == (plainly.gate_reading(circuit, at, given, held, gates) is None)
                       for at, bit in enumerate(gates)):
                    self.assertTrue(all(a is None or a == b for a, b in zip(sure, gates)))
            for place, item in enumerate(given):
                if item is None:
                    for bit in (0, 1):
                        more = sure_readings(circuit, given[:place] + (bit,) + given[place + 1:], held)
                        self.assertTrue(all(a is None or a == b for a, b in zip(sure, more)))

    def test_orders_in_any_sequence(self):
        rng = random.Random(5)
        for args in cases(SMALL):
            found = [None] * len(args[0][2])
            told = []
            while True:
                can = [at for at, bit in enumerate(found) if bit is None
                       and plainly.gate_reading(args[0], at, args[1], args[2], found) is not None]
                if not can:
                    break
                at = rng.choice(can)
                found[at] = plainly.gate_reading(args[0], at, args[1], args[2], found)
                told.append((at, found[at]))
                self.assertTrue(is_order(*args, tuple(told)))
            self.assertEqual(tuple(found), sure_readings(*args))
            self.assertTrue(is_closed_lot(*args, tuple(told), closed_lot(*args)))
            self.assertFalse(is_order(*args, list(told)))
            if told:
                short = tuple(told[:-1])
                rest = tuple(sorted(set(closed_lot(*args)) | {told[-1][0]}))
                self.assertFalse(is_closed_lot(*args, short, rest))
                self.assertFalse(is_order(*args, tuple(told) + (told[0],)))
                self.assertFalse(is_order(*args, tuple(told[:-1]) + ((told[-1][0], 1 - told[-1][1]),)))

    def test_judging_orders_and_lots(self):
        told = {True: 0, False: 0}
        for args in cases([drawn.COUNTER, drawn.SELF_AND, drawn.ODD_RING, drawn.EMPTY, drawn.HELD_RING]):
            order, lot = sure_order(*args), closed_lot(*args)
            values = every_kind() + list(changed(order)) + list(itertools.permutations(order[:4]))
            self.judges(lambda x: self.kept(is_order, CASE + ("thing",), args + (x,)),
                        lambda x: plainly.is_order(*args, x), values)
            for value in values:
                verdict = is_closed_lot(*args, value, lot)
                self.assertEqual(verdict, plainly.is_closed_lot(*args, value, lot))
            for value in every_kind() + list(changed(lot)):
                verdict = self.kept(is_closed_lot, CASE + ("order", "lot"), args + (order, value))
                self.assertEqual(verdict, plainly.is_closed_lot(*args, order, value))
                told[verdict] += 1
        self.assertGreater(told[True], 10)
        self.assertGreater(told[False], 1000)

    def test_by_hand(self):
        self.assertEqual(sure_readings(drawn.SELF_AND, (0,), ()), (0,))
        self.assertEqual(sure_readings(drawn.SELF_AND, (1,), ()), (None,))
        self.assertEqual(sure_readings(drawn.SELF_AND, (None,), ()), (None,))
        self.assertEqual(sure_readings(drawn.EMPTY, (), ()), ())
        self.assertIs(is_whole(drawn.EMPTY, (), ()), True)
        self.assertEqual(sure_order(drawn.EMPTY, (), ()), ())
        self.assertEqual(closed_lot(drawn.EMPTY, (), ()), ())
        self.assertTrue(is_closed_lot(drawn.EMPTY, (), (), (), ()))
        self.assertEqual(sure_order(drawn.ODD_RING, (1,), ()), ((0, 1),))
        self.assertEqual(closed_lot(drawn.ODD_RING, (1,), ()), (1, 2))
        # Two branches of one unsure gate are unsure each by itself.
        self.assertEqual(closed_lot(drawn.UNLIKE_BRANCHES, (), ()), (0, 1))
        for bad in (((0, True),), ((False, 0),), ([0, 0],), ((0, 0, 0),), ((0,),), ((0, None),)):
            self.assertFalse(is_order(drawn.SELF_AND, (0,), (), bad))
        self.assertFalse(is_closed_lot(drawn.SELF_AND, (1,), (), (), (False,)))
        self.assertFalse(is_closed_lot(drawn.SELF_AND, (1,), (), (), [0]))
        self.assertTrue(is_closed_lot(drawn.SELF_AND, (1,), (), (), (0,)))

    def test_great_ones(self):
        row = (0, (), drawn.wires(2000), ())
        self.assertEqual(sure_order(row, (), ()), tuple((at, 1) for at in range(2000)))
        self.assertEqual(closed_lot((0, (), drawn.ring(2000, 1), ()), (), ()), tuple(range(2000)))

    def test_wrong_cases(self):
        for function, more in ((sure_readings, ()), (is_whole, ()), (sure_order, ()), (closed_lot, ()),
                               (is_order, ("x",)), (is_closed_lot, ((), "x"))):
            bad_case(self, function, more)


class Instants(Contract):
    def test_drawn(self):
        for args in cases(SMALL, readings=False):
            gates, _ = plainly.laps(*args)
            told = self.kept(instant, CASE, args)
            if None in gates:
                self.assertIsNone(told)
                continue
            circuit, given, held = args
            self.assertEqual(told, (tuple(plainly.of_source(x, given, held, gates) for x in circuit[3]),
                                    tuple(plainly.of_source(x, given, held, gates) for _, x in circuit[1])))

    def test_by_hand(self):
        self.assertEqual(instant(drawn.SELF_AND, (0,), ()), ((0,), ()))
        self.assertIsNone(instant(drawn.SELF_AND, (1,), ()))
        self.assertEqual(instant(drawn.EMPTY, (), ()), ((), ()))
        self.assertEqual(solutions(drawn.SELF_AND, (0,), ()), [(0,)])
        self.assertEqual(solutions(drawn.SELF_AND, (1,), ()), [(0,), (1,)])
        self.assertEqual(solutions(drawn.ONE_SOLUTION, (), ()), [(1, 1)])
        self.assertEqual(sure_readings(drawn.ONE_SOLUTION, (), ()), (None, None))
        self.assertEqual(solutions(drawn.EMPTY, (), ()), [()])

    def test_solutions(self):
        for args in cases(SMALL, readings=False):
            told = self.kept(solutions, CASE, args)
            self.assertEqual(told, plainly.solutions(*args))
            if is_whole(*args):
                self.assertEqual(told, [sure_readings(*args)])

    def test_twelve_gates_and_thirteen(self):
        twelve = (0, (), drawn.ring(12, 0), ())
        self.assertEqual(solutions(twelve, (), ()), [(0,) * 12, (1,) * 12])
        self.assertEqual(solutions((0, (), drawn.ring(12, 1), ()), (), ()), [])
        for gates in (drawn.ring(13, 0), drawn.wires(13), drawn.wires(2000)):
            with self.assertRaises(TooMany) as caught:
                solutions((0, (), gates, ()), (), ())
            self.assertEqual(caught.exception.most, 12)
        thirteen = (1, ((0, ("bit", 0)),), drawn.ring(13, 0), ())
        self.refuses(BadGiven, solutions, (thirteen, (2,), (0,)))
        self.refuses(BadHeld, solutions, (thirteen, (1,), (2,)))

    def test_wrong_cases(self):
        bad_case(self, instant, bits=True)
        bad_case(self, solutions, bits=True)


class Runs(Contract):
    def test_drawn(self):
        rng = random.Random(9)
        ends = set()
        for circuit in SMALL:
            rows = [tuple(rng.randint(0, 1) for _ in range(circuit[0])) for _ in range(6)]
            outs, index = self.kept(run_circuit, ("circuit", "rows"), (circuit, rows))
            held, wanted, at = tuple(bit for bit, _ in circuit[1]), [], None
            for at, given in enumerate(rows):
                both = instant(circuit, given, held)
                if both is None:
                    break
                wanted.append(both[0])
                held = both[1]
            else:
                at = None
            self.assertEqual((outs, index), (wanted, at))
            self.assertIsInstance(outs, list)
            ends.add(index)
            self.alike_lists(run_circuit, (circuit, rows), 1)
        self.assertLessEqual({None, 0}, ends)

    def test_by_hand(self):
        self.assertEqual(run_circuit(drawn.SELF_AND, []), ([], None))
        self.assertEqual(run_circuit(drawn.SELF_AND, [(0,), (0,), (1,), (0,)]), ([(0,), (0,)], 2))
        self.assertEqual(run_circuit(drawn.EMPTY, [(), (), ()]), ([(), (), ()], None))
        flip = (0, ((0, ("gate", 0)),), (((("reg", 0),), drawn.NOT),), (("reg", 0), ("gate", 0)))
        self.assertEqual(run_circuit(flip, [()] * 4), ([(0, 1), (1, 0), (0, 1), (1, 0)], None))
        shift = (1, ((1, ("in", 0)), (0, ("reg", 0))), (), (("reg", 1),))
        self.assertEqual(run_circuit(shift, [(0,), (1,), (0,), (0,)])[0], [(0,), (1,), (0,), (1,)])

    def test_wrong_ones(self):
        rows = [(0, 1), (1, 1)]
        self.wrong_values(run_circuit, (drawn.COUNTER, rows), 0, BadCircuit, plainly.circuit, least=150)
        self.wrong_values(run_circuit, (drawn.COUNTER, rows), 1, BadRows,
                          lambda x: type(x) in (list, tuple) and all(plainly.bits(y, 2) for y in x), least=100,
                          more=[[[0, 1]], [(0, True)], [(0, None)], [(0,)], [(0, 1, 0)], [(0, 1), ()], {(0, 1): 0}, "ab"])
        self.first_error(run_circuit, (drawn.COUNTER, rows), (BadCircuit, BadRows))
        # Rows are judged before the circuit is run.
        self.refuses(BadRows, run_circuit, (drawn.SELF_AND, [(1,), (2,)]))
