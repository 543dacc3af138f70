import itertools
import random

from restsure.errors import BadCases, BadCircuit, BadGiven, BadHeld, BadLine, BadStart, TooMany, Unsure
from restsure.lines import line_for, line_settles, read_along, set_along, wrong_start
from tests import drawn, plainlines, plainly
from tests.contract import Contract
from tests.drawn import AND, NOT, OR, SAME, UNLIKE
from tests.test_unringed import random_circuit

DRAWN = drawn.lots_of(150) + drawn.lots_of(60, most_gates=7, most_sources=4) + drawn.BY_HAND
# Point 61: 0 from all starts behind the line (0,), and never sure.
NEVER_SURE = (0, (), (((("gate", 1), ("gate", 1)), UNLIKE), ((("gate", 1),), SAME)), (("gate", 0),))
SMALL = (1, ((0, ("gate", 1)),), (((("in", 0), ("gate", 1)), AND), ((("reg", 0), ("gate", 0)), OR)), (("gate", 0),))
SMALL_CASES = [((0,), (1,)), ((1,), (1,)), ((0,), (0,))]


def drawn_line(rng, what, most=12):
    gates = range(len(what[2]))
    return tuple(rng.choice(gates) for _ in range(rng.randint(0, most))) if gates else ()


def unsure_index(what, cases):
    told = [None in plainly.laps(what, *case)[0] for case in cases]
    return told.index(True) if True in told else None


class Lines(Contract):
    def unsure_at(self, function, args):
        with self.assertRaises(Unsure) as caught:
            function(*args)
        return caught.exception.index

    def too_many(self, most, function, *args):
        with self.assertRaises(TooMany) as caught:
            function(*args)
        self.assertEqual(caught.exception.most, most)


class Along(Lines):
    def test_drawn_lines(self):
        rng = random.Random(1)
        bits = 0
        for what in DRAWN:
            line = drawn_line(rng, what)
            case = rng.choice(plainlines.all_cases(what))
            read = self.kept(read_along, ("circuit", "line", "given", "held"), (what, line) + case)
            self.assertEqual(repr(read), repr(plainlines.read_along(what, line, *case)))
            starts = plainly.all_bits(len(what[2]))
            for start in starts if len(starts) <= 16 else rng.sample(starts, 16):
                told = self.kept(set_along, ("circuit", "line", "given", "held", "start"), (what, line) + case + (start,))
                self.assertEqual(repr(told), repr(plainlines.set_along(what, line, *case, start)))
                # HEART: what is a bit along the line is this bit, from any start.
                for reading, bit in zip(read, told):
                    self.assertIn(reading, (None, bit))
                    bits += reading is not None
        self.assertGreater(bits, 1000)

    def test_readings_of_cases(self):
        rng = random.Random(2)
        for what in DRAWN[:120]:
            line = drawn_line(rng, what)
            for given, held in itertools.product(plainly.all_readings(what[0]), plainly.all_readings(len(what[1]))):
                told = read_along(what, line, given, held)
                self.assertEqual(told, plainlines.read_along(what, line, given, held))

    def test_sure_readings_from_all_starts(self):
        # HEART: a line that settles a case brings the gates to their sure readings.
        rng = random.Random(3)
        settled = 0
        for what in DRAWN:
            for case in plainlines.whole_cases(what)[:3]:
                line = drawn_line(rng, what, 16)
                if not line_settles(what, line, [case]):
                    continue
                settled += 1
                sure, _ = plainly.laps(what, *case)
                for start in plainly.all_bits(len(what[2])):
                    self.assertEqual(set_along(what, line, *case, start), sure)
        self.assertGreater(settled, 60)

    def test_by_hand(self):
        for start in plainly.all_bits(2):
            self.assertEqual(set_along(NEVER_SURE, (0,), (), (), start)[0], 0)
        self.assertEqual(read_along(NEVER_SURE, (0, 1, 0, 1), (), ()), [None, None])
        self.assertFalse(line_settles(NEVER_SURE, (0,), [((), ())]))
        self.assertEqual(self.unsure_at(wrong_start, (NEVER_SURE, (0,), [((), ())])), 0)
        self.assertEqual(self.unsure_at(line_for, (NEVER_SURE, [((), ())])), 0)
        self.assertEqual(read_along(SMALL, (0, 1, 0), (0,), (1,)), [0, 1])
        self.assertEqual(read_along(SMALL, (0,), (1,), (1,)), [None, None])
        self.assertEqual(set_along(SMALL, (0, 1), (1,), (0,), (0, 1)), [1, 1])

    def test_each_gate_in_its_turn(self):
        what = (0, (), (((("gate", 1),), SAME), ((), (1,)), ((("gate", 0),), NOT)), ())
        self.assertEqual(read_along(what, (2, 0, 1), (), ()), [None, 1, None])
        self.assertEqual(read_along(what, (1, 0, 2), (), ()), [1, 1, 0])
        self.assertEqual(set_along(what, (2, 0, 1), (), (), (0, 0, 0)), [0, 1, 1])

    def test_long_ones(self):
        for what in (SMALL, (0, (), drawn.wires(2000), ())):
            many = len(what[2])
            case = ((0,) * what[0], (0,) * len(what[1]))
            line = tuple(at % many for at in range(20000))
            self.assertEqual(len(read_along(what, line, *case)), many)
            self.assertTrue(line_settles(what, line, [case]))
            self.assertEqual(len(set_along(what, line, *case, (1,) * many)), many)
            for function, more in ((read_along, case), (line_settles, ([case],)), (set_along, case + ((0,) * many,)),
                                   (wrong_start, ([case],))):
                self.refuses(BadLine, function, (what, line + (0,)) + more)

    def test_no_gates(self):
        self.assertEqual(read_along(drawn.EMPTY, (), (), ()), [])
        self.assertEqual(set_along(drawn.EMPTY, (), (), (), ()), [])
        self.refuses(BadLine, read_along, (drawn.EMPTY, (0,), (), ()))


class Settling(Lines):
    def test_whether_drawn_lines_settle(self):
        rng = random.Random(4)
        told = {True: 0, False: 0}
        for what in DRAWN:
            whole = plainlines.whole_cases(what)
            for cases in ([rng.choice(plainlines.all_cases(what))], whole, rng.sample(whole, len(whole) // 2)):
                if not cases:
                    continue
                line = drawn_line(rng, what, 14)
                verdict = self.kept(line_settles, ("circuit", "line", "cases"), (what, line, cases))
                self.assertIs(verdict, plainlines.settles(what, line, cases))
                self.alike_lists(line_settles, (what, line, cases), 2)
                told[verdict] += 1
        self.assertGreater(min(told.values()), 100)

    def test_lines_for_drawn_cases(self):
        rng = random.Random(5)
        found, unsure = 0, 0
        for what in DRAWN:
            every = plainlines.all_cases(what)
            rng.shuffle(every)
            for cases in (every, every[:2], plainlines.whole_cases(what), every[-1:]):
                if not cases:
                    continue
                index = unsure_index(what, cases)
                if index is not None:
                    self.assertEqual(self.unsure_at(line_for, (what, cases)), index)
                    unsure += 1
                    continue
                line = self.kept(line_for, ("circuit", "cases"), (what, cases))
                self.alike_lists(line_for, (what, cases), 1)
                self.assertTrue(plainlines.line(what, line))
                self.assertTrue(plainlines.settles(what, line, cases))
                self.assertLessEqual(len(line), plainlines.most_steps(what))
                found += 1
        self.assertGreater(min(found, unsure), 100)

    def test_rings_in_which_cases_go_unlike_ways(self):
        # Each input lets the ring begin at another gate, against its numbers or along them.
        for turned in (False, True):
            gates = []
            for at in range(8):
                near = (at + 1) % 8 if turned else (at - 1) % 8
                gates.append(((("in", at), ("gate", near)), (OR, AND)[at % 2]))
            what = (8, (), tuple(gates), tuple(("gate", at) for at in range(8)))
            cases = plainlines.whole_cases(what)
            self.assertGreater(len(cases), 200)
            line = line_for(what, cases)
            self.assertLessEqual(len(line), 64)
            self.assertTrue(plainlines.settles(what, line, cases))
            self.assertIsNone(wrong_start(what, line, cases[:20]))

    def test_many_cases(self):
        # More of them than are read side by side.
        registers = tuple((0, ("reg", at)) for at in range(9))
        gates = tuple(((("in", at % 3), ("reg", at), ("gate", (at + 1) % 9)), (1, 0, 0, 1, 1, 1, 0, 1)) for at in range(9))
        what = (3, registers, gates, (("gate", 0),))
        every = plainlines.all_cases(what)
        self.assertEqual(len(every), 4096)
        index = unsure_index(what, every)
        self.assertEqual(self.unsure_at(line_for, (what, every)), index)
        whole = plainlines.whole_cases(what)
        self.assertGreater(len(whole), 2100)
        line = line_for(what, whole)
        self.assertTrue(line_settles(what, line, whole))
        self.assertTrue(plainlines.settles(what, line, whole[::97] + whole[-1:]))
        self.assertEqual(line_settles(what, line, whole + [every[index]]), False)
        # The first one of all at which it is not whole, wherever it stands.
        for at in (0, 1, 2047, 2048, 2049, len(whole)):
            cases = whole[:at] + [every[index]] + whole[at:] + [every[index]]
            self.assertEqual(self.unsure_at(line_for, (what, cases[:4096])), at)
        self.refuses(BadCases, line_for, (what, every + every[:1]))
        self.assertTrue(line_settles(what, line, (whole * 2)[:4096]))
        self.refuses(BadCases, line_settles, (what, line, (whole * 2)[:4097]))
        # A line that settles all but the last case.
        self.assertFalse(line_settles((1, (), ((((("in", 0),), SAME)), ((("in", 0), ("gate", 1)), OR)), ()), (0, 1),
                                      [((1,), ())] * 4095 + [((0,), ())]))

    def test_great_circuits(self):
        self.assertEqual(line_for((0, (), drawn.wires(2000), ()), [((), ())]), tuple(range(2000)))
        # Against their numbers, and a ring that a bit breaks.
        gates = tuple(((("gate", at + 1),), SAME) for at in range(1999)) + (((), (0,)),)
        self.assertEqual(line_for((0, (), gates, ()), [((), ())]), tuple(reversed(range(2000))))
        ring = tuple(((("gate", (at + 1) % 1500), ("in", 0)), AND) for at in range(1500))
        line = line_for((1, (), ring, ()), [((0,), ())])
        self.assertEqual(sorted(line), list(range(1500)))
        self.assertEqual(self.unsure_at(line_for, ((1, (), ring, ()), [((0,), ()), ((1,), ())])), 1)

    def test_a_line_may_be_found_though_the_bound_is_great(self):
        # A ring of 150 gates, so a bound of 22500, and each one settled at once.
        ring = tuple(((("gate", (at + 1) % 150), ("in", 0)), AND) for at in range(150))
        self.assertLessEqual(len(line_for((1, (), ring, ()), [((0,), ())])), 20000)

    def ring_entered_everywhere(self, order):
        """A ring that goes by order, and a case for each of its gates in which it begins there."""
        pairs = list(itertools.combinations(range(30), 2))[:len(order)]
        gates = [None] * len(order)
        for at, gate in enumerate(order):
            one, other = pairs[gate]
            # The gate is 0 where both of its registers are 0, otherwise it follows the one ahead.
            gates[gate] = ((("gate", order[at - 1]), ("reg", one), ("reg", other)), (0, 0, 0, 1, 0, 1, 0, 1))
        cases = [((), tuple(int(at not in pair) for at in range(30))) for pair in pairs]
        return (0, tuple((0, ("reg", at)) for at in range(30)), tuple(gates), ()), cases

    def test_lines_that_are_too_long(self):
        for many, drawn_order in ((60, True), (141, True), (142, False), (400, False), (400, True)):
            order = list(range(many))
            if drawn_order:
                random.Random(many).shuffle(order)
            for row in (order, order[::-1]):
                what, cases = self.ring_entered_everywhere(row)
                self.assertIsNone(unsure_index(what, cases[:2]))
                try:
                    line = line_for(what, cases)
                except TooMany as error:
                    self.assertEqual((error.most, many * many > 20000), (20000, True))
                    self.assertTrue(drawn_order)
                    continue
                self.assertLessEqual(len(line), min(many * many, 20000))
                self.assertTrue(line_settles(what, line, cases))
                # One of both ways round goes along the ring.
                self.assertTrue(drawn_order or len(line) <= 4 * many)
        with self.assertRaises(TooMany):
            line_for(*self.ring_entered_everywhere(random.Random(400).sample(range(400), 400)))

    def test_no_gates(self):
        self.assertEqual(line_for(drawn.EMPTY, [((), ())]), ())
        self.assertTrue(line_settles(drawn.EMPTY, (), [((), ())] * 4096))
        self.assertIsNone(wrong_start(drawn.EMPTY, (), [((), ())]))


class Starts(Lines):
    def test_drawn(self):
        rng = random.Random(6)
        told = {"none": 0, "unsettled": 0, "wrong": 0, "unsure": 0}
        for what in DRAWN:
            if len(what[2]) > 6:
                continue
            every = plainlines.all_cases(what)
            for cases in (plainlines.whole_cases(what), [rng.choice(every)]):
                if not cases:
                    continue
                line = drawn_line(rng, what, 9)
                index = unsure_index(what, cases)
                if index is not None:
                    self.assertEqual(self.unsure_at(wrong_start, (what, line, cases)), index)
                    told["unsure"] += 1
                    continue
                found = self.kept(wrong_start, ("circuit", "line", "cases"), (what, line, cases))
                self.alike_lists(wrong_start, (what, line, cases), 2)
                wrong = plainlines.wrong_starts(what, line, cases)
                if found is None:
                    self.assertEqual(wrong, [])
                    told["none" if plainlines.settles(what, line, cases) else "unsettled"] += 1
                else:
                    self.assertIn(repr(found), [repr(pair) for pair in wrong])
                    told["wrong"] += 1
        self.assertGreater(min(told.values()), 20)

    def test_lines_that_do_not_settle_and_bring_all(self):
        # Unlike of one gate twice is 0 whatever it has; where the gate is whole later on it is sure.
        gates = (((("gate", 1), ("gate", 1)), UNLIKE), ((("in", 0),), SAME))
        what = (1, (), gates, (("gate", 0),))
        cases = [((0,), ()), ((1,), ())]
        self.assertFalse(line_settles(what, (0,), cases))
        self.assertIsNone(wrong_start(what, (0,), cases))
        index, start = wrong_start(what, (), cases)
        self.assertEqual(start[0], 1)
        held = (1, ((0, ("gate", 1)),), gates, ())
        index, start = wrong_start(held, (0,), [((1,), (0,)), ((1,), (1,))])
        self.assertEqual(start[1], 0)
        self.assertIn(index, (0, 1))
        self.assertIsNone(wrong_start(held, (1,), [((1,), (0,)), ((1,), (1,))]))

    def test_the_second_case_alone(self):
        what = (1, (), (((("in", 0), ("gate", 1)), AND), ((), (1,))), (("gate", 0),))
        index, start = wrong_start(what, (0,), [((0,), ()), ((1,), ())])
        self.assertEqual((index, start[1]), (1, 0))

    def test_outputs_that_are_no_gates(self):
        what = (1, ((1, ("reg", 0)),), drawn.wires(3), (("in", 0), ("bit", 1), ("reg", 0)))
        self.assertIsNone(wrong_start(what, (), [((0,), (1,)), ((1,), (0,))]))

    def test_twelve_gates_and_thirteen(self):
        line = tuple(range(12))
        what = (0, (), drawn.wires(12), (("gate", 11),))
        self.assertIsNone(wrong_start(what, line, [((), ())]))
        index, start = wrong_start(what, line[1:], [((), ())])
        self.assertEqual((index, start[0]), (0, 0))
        index, start = wrong_start(what, line[:-1] + (0,), [((), ())])
        self.assertEqual((index, start[11]), (0, 0))
        self.assertTrue(plainlines.is_astray(what, line[:-1] + (0,), ((), ()), start))
        self.assertEqual(len(start), 12)
        more = (0, (), drawn.wires(13), (("gate", 11),))
        self.too_many(12, wrong_start, more, line, [((), ())])
        # Unsure comes ahead of it, and what is wrong ahead of that.
        loose = (1, (), drawn.wires(12) + (((("gate", 12), ("in", 0)), AND),), ())
        self.too_many(12, wrong_start, loose, line, [((0,), ())])
        self.assertEqual(self.unsure_at(wrong_start, (loose, line, [((0,), ()), ((1,), ())])), 1)
        self.refuses(BadCases, wrong_start, (loose, line, []))
        self.refuses(BadLine, wrong_start, (loose, (13,), []))

    def test_many_cases_and_long_lines(self):
        # Each gate is what is given, but what it was where a 1 is held and a 0 is given.
        gates = tuple(((("in", at), ("reg", at), ("gate", at)), (0, 1, 0, 1, 0, 1, 1, 1)) for at in range(6))
        what = (6, tuple((0, ("gate", at)) for at in range(6)), gates, ())
        whole = plainlines.whole_cases(what)
        self.assertEqual(len(whole), 3 ** 6)
        line = tuple(at % 5 for at in range(20000))
        found = wrong_start(what, line, whole * 5)
        self.assertTrue(plainlines.is_astray(what, line[:5], whole[found[0]], found[1]))
        self.assertIsNone(wrong_start(what, line[:-1] + (5,), whole * 5))


class Wrong(Lines):
    def test_read_along(self):
        args = (SMALL, (0, 1), (1,), (None,))
        self.wrong_values(read_along, args, 0, BadCircuit, plainly.circuit, least=100)
        self.wrong_values(read_along, args, 1, BadLine, lambda x: plainlines.line(SMALL, x), least=100)
        self.wrong_values(read_along, args, 2, BadGiven, lambda x: plainly.readings(x, 1), least=100)
        self.wrong_values(read_along, args, 3, BadHeld, lambda x: plainly.readings(x, 1), least=100)
        self.first_error(read_along, args, (BadCircuit, BadLine, BadGiven, BadHeld))

    def test_set_along(self):
        args = (SMALL, (0, 1), (1,), (0,), (1, 0))
        self.wrong_values(set_along, args, 0, BadCircuit, plainly.circuit, least=100)
        self.wrong_values(set_along, args, 1, BadLine, lambda x: plainlines.line(SMALL, x), least=100)
        self.wrong_values(set_along, args, 2, BadGiven, lambda x: plainly.bits(x, 1), least=100)
        self.wrong_values(set_along, args, 3, BadHeld, lambda x: plainly.bits(x, 1), least=100)
        self.wrong_values(set_along, args, 4, BadStart, lambda x: plainly.bits(x, 2), least=100, more=((None, 0), (0, None)))
        self.first_error(set_along, args, (BadCircuit, BadLine, BadGiven, BadHeld, BadStart))

    def test_those_with_cases(self):
        for function in (line_settles, wrong_start):
            args = (SMALL, (0, 1, 0, 1), SMALL_CASES)
            self.wrong_values(function, args, 0, BadCircuit, plainly.circuit, least=100)
            self.wrong_values(function, args, 1, BadLine, lambda x: plainlines.line(SMALL, x), least=100)
            self.wrong_values(function, args, 2, BadCases, lambda x: plainlines.cases(SMALL, x), least=100,
                              more=([((0,), (None,))], [((0,), (1,), ())], [[(0,), (1,)]], [([0], (1,))], [((True,), (1,))]))
            self.first_error(function, args, (BadCircuit, BadLine, BadCases))
        args = (SMALL, SMALL_CASES)
        self.wrong_values(line_for, args, 0, BadCircuit, plainly.circuit, least=100)
        self.wrong_values(line_for, args, 1, BadCases, lambda x: plainlines.cases(SMALL, x), least=100)
        self.first_error(line_for, args, (BadCircuit, BadCases))

    def test_circuits_of_many_gates(self):
        rng = random.Random(11)
        for seed in range(12):
            what = random_circuit(seed, 60, 12)
            cases = [((rng.randint(0, 1), rng.randint(0, 1)), (rng.randint(0, 1), rng.randint(0, 1))) for _ in range(9)]
            index = unsure_index(what, cases)
            if index is None:
                line = line_for(what, cases)
                self.assertTrue(plainlines.settles(what, line, cases))
                self.assertLessEqual(len(line), plainlines.most_steps(what))
            else:
                self.assertEqual(self.unsure_at(line_for, (what, cases)), index)
