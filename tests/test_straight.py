import random

from restsure.circuits import is_circuit
from restsure.errors import BadCode, BadProgram, BadRows, BadStart, NotSure, TooMany
from restsure.instants import run_program
from restsure.lines import line_settles
from restsure.machines import machine_of, run_machine
from restsure.straight import code_of, is_straight, run_straight
from restsure.wiring import circuit_of
from tests import drawn, drawnprograms, drawnwords, plainlines, plainly, plainwords
from tests.contract import Contract
from tests.drawn import SAME
from tests.drawnprograms import clock, clock_states, in_row, long_row, toggles
from tests.drawnwords import NOTHING, PAUSE, UNSURE
from tests.test_lines import SMALL, drawn_line
from tests.values import changed, every_kind

SMALL_CODE = (SMALL, (0, 1, 0))


def plain_run(code, start, rows):
    what, line = code
    held, gates, told = tuple(bit for bit, _ in what[1]), list(start), []
    for given in rows:
        gates = plainlines.set_along(what, line, given, held, gates)
        outputs, held = plainlines.told_behind(what, given, held, gates)
        told.append(outputs)
    return told


def plain_code(thing):
    return type(thing) is tuple and len(thing) == 2 and plainly.circuit(thing[0]) and plainlines.line(thing[0], thing[1])


def drawn_rows(rng, many, longest=8):
    return [tuple(rng.randint(0, 1) for _ in range(many)) for _ in range(rng.randint(0, longest))]


class Codes(Contract):
    def test_drawn_codes(self):
        rng = random.Random(1)
        for what in drawn.lots_of(300) + drawn.BY_HAND:
            code = (what, drawn_line(rng, what, 8))
            start = tuple(rng.randint(0, 1) for _ in what[2])
            rows = drawn_rows(rng, what[0])
            told = self.kept(run_straight, ("code", "start", "rows"), (code, start, rows))
            self.assertEqual(repr(told), repr(plain_run(code, start, rows)))
            self.alike_lists(run_straight, (code, start, rows), 2)
            self.assertIs(self.kept(is_straight, ("thing",), (code,)), True)

    def test_gates_are_left_as_they_are(self):
        # A gate that turns itself, once in each instant, or twice, or never.
        what = (0, (), (((("gate", 0),), (1, 0)),), (("gate", 0),))
        self.assertEqual(run_straight((what, (0,)), (0,), [()] * 4), [(1,), (0,), (1,), (0,)])
        self.assertEqual(run_straight((what, (0, 0)), (0,), [()] * 3), [(0,), (0,), (0,)])
        self.assertEqual(run_straight((what, ()), (1,), [()] * 2), [(1,), (1,)])

    def test_outputs_ahead_of_registers(self):
        what = (1, ((1, ("reg", 1)), (0, ("in", 0)), (1, ("gate", 0))), (((("reg", 2),), SAME),),
                (("reg", 0), ("reg", 1), ("gate", 0), ("in", 0), ("bit", 1)))
        told = run_straight((what, (0,)), (0,), [(1,), (0,), (1,)])
        self.assertEqual(told, [(1, 0, 1, 1, 1), (0, 1, 1, 0, 1), (1, 0, 1, 1, 1)])
        self.assertEqual(run_straight((what, ()), (0,), [(1,), (0,)]), [(1, 0, 0, 1, 1), (0, 1, 0, 0, 1)])

    def test_edges(self):
        self.assertEqual(run_straight((drawn.EMPTY, ()), (), [(), ()]), [(), ()])
        self.assertEqual(run_straight(SMALL_CODE, (0, 0), []), [])
        code = ((0, (), drawn.wires(2000), (("gate", 1999),)), tuple(range(2000)) * 10)
        self.assertEqual(run_straight(code, (0,) * 2000, [()]), [(1,)])
        self.assertTrue(is_straight(code))
        self.assertFalse(is_straight((code[0], code[1] + (0,))))

    def test_wrong_ones(self):
        args = (SMALL_CODE, (0, 1), [(0,), (1,)])
        self.wrong_values(run_straight, args, 0, BadCode, plain_code, least=200)
        self.wrong_values(run_straight, args, 1, BadStart, lambda x: plainly.bits(x, 2), least=100)

        def are_rows(x):
            return type(x) in (list, tuple) and all(plainly.bits(row, 1) for row in x)
        self.wrong_values(run_straight, args, 2, BadRows, are_rows, least=100)
        self.first_error(run_straight, args, (BadCode, BadStart, BadRows))
        told = self.judges(is_straight, plain_code, values_to_judge())
        self.assertGreater(told[False], 100)
        self.assertGreater(told[True], 2)


def values_to_judge():
    return list(changed(SMALL_CODE)) + every_kind() + [SMALL_CODE, (SMALL, ()), (drawn.EMPTY, ()), (drawn.EMPTY, (0,))]


class OfPrograms(Contract):
    def is_right(self, prog, rng, ways=3):
        """The code tells what the program tells, from all starts that are drawn."""
        code = code_of(prog)
        self.assertTrue(is_straight(code))
        self.assertEqual(code[0], circuit_of(prog))
        for _ in range(ways):
            rows = drawn_rows(rng, len(prog[0]), 12)
            start = tuple(rng.randint(0, 1) for _ in code[0][2])
            wanted = [totals + (int(code == 0), int(code == 1)) for totals, code, _ in run_program(prog, rows)]
            self.assertEqual(run_straight(code, start, rows), wanted)
        return code

    def test_drawn_programs(self):
        rng = random.Random(2)
        told = {"sure": 0, "not": 0}
        for prog in drawnprograms.small_inputs(220) + drawnprograms.whirls(50) + drawnwords.programs(60, start=50):
            try:
                machine_of(prog)
            except NotSure as error:
                with self.assertRaises(NotSure) as caught:
                    code_of(prog)
                self.assertEqual(caught.exception.row, error.row)
                told["not"] += 1
                continue
            self.kept(code_of, ("program",), (prog,))
            self.is_right(prog, rng)
            told["sure"] += 1
        self.assertGreater(told["sure"], 100)
        self.assertGreater(told["not"], 30)

    def test_machine_and_code_tell_the_same(self):
        rng = random.Random(3)
        prog = (("a", "b"), ("o", "p"), toggles(("a", "b"), ("o", "p")))
        code, machine = self.is_right(prog, rng, 20), machine_of(prog)
        rows = drawn_rows(rng, 2, 40)
        told = [totals + (1 - code, code) for totals, code in run_machine(machine, rows)]
        self.assertEqual(run_straight(code, (1,) * len(code[0][2]), rows), told)

    def test_by_hand(self):
        rng = random.Random(4)
        for prog in (drawnwords.HAND, ((), ("o",), ("loop", ("seq", ("emit", "o"), PAUSE))), ((), (), NOTHING), (("a",), (), PAUSE)):
            code = self.is_right(prog, rng)
            self.assertTrue(line_settles(code[0], code[1], [((0,) * len(prog[0]), tuple(bit for bit, _ in code[0][1]))]))
        code = code_of(((), ("o",), ("loop", ("seq", ("emit", "o"), PAUSE))))
        self.assertEqual(run_straight(code, (0,) * len(code[0][2]), [()] * 3), [(1, 0, 1)] * 3)

    def test_not_sure(self):
        with self.assertRaises(NotSure) as caught:
            code_of(UNSURE)
        self.assertEqual(caught.exception.row, ((),))
        later = (("a",), ("o",), in_row(PAUSE, ("if", "a", UNSURE[2], NOTHING)))
        with self.assertRaises(NotSure) as caught:
            code_of(later)
        self.assertEqual(caught.exception.row, ((0,), (1,)))

    def too_many(self, most, prog):
        with self.assertRaises(TooMany) as caught:
            code_of(prog)
        self.assertEqual(caught.exception.most, most)

    def test_too_many_cases(self):
        # Each pair (given, held) that is reached is a case.
        eight = tuple("abcdefgh")
        for pauses, right in ((14, True), (15, False), (16, False), (40, False)):
            body = long_row(*[PAUSE] * pauses)
            prog = (eight, (), body)
            # The first one, one for each pause, and the one of what has ended.
            cases = (pauses + 2) * 256
            self.assertEqual(cases <= 4096, right)
            if right:
                self.is_right(prog, random.Random(5))
            else:
                self.too_many(4096, prog)

    def test_sequence_of_the_limits(self):
        # 200 states are asked first, then registers, then gates, then cases.
        self.assertEqual(clock_states(0, 3, 4, 5, 7), 421)
        self.too_many(200, (tuple("abcdefgh"), (), clock(0, 3, 4, 5, 7, 9)))
        self.too_many(60, (tuple("abcdefgh"), (), long_row(*[PAUSE] * 60)))
        self.too_many(4096, (tuple("abcdefgh"), (), long_row(*[PAUSE] * 59)))
        with self.assertRaises(NotSure):
            code_of(((), ("o",), in_row(long_row(*[PAUSE] * 62), UNSURE[2])))

    def test_wrong_ones(self):
        self.wrong_values(code_of, ((("a",), ("o",), ("emit", "o")),), 0, BadProgram, plainwords.program, least=100)
        self.assertTrue(is_circuit(code_of((("a",), ("o",), ("emit", "o")))[0]))
