import itertools
import random

from restsure.circuits import is_circuit
from restsure.errors import BadProgram, TooMany
from restsure.readings import instant
from restsure.statements import is_program
from restsure.wiring import circuit_of
from tests import drawnprograms, drawnwords, plainwords
from tests.contract import Contract
from tests.drawnprograms import beside, in_row, locals_around, traps
from tests.drawnwords import HAND, NO_WAY, NOTHING, PAUSE, UNSURE, broad


def doubled(thing, what):
    """How many of what stand in it, the bodies of loops written twice, all if what is None."""
    within = sum(doubled(kid, what) for _, kid in plainwords.kids(thing))
    return int(what is None or thing[0] == what) + within * (2 if thing[0] == "loop" else 1)


class Wired(Contract):
    def follows(self, prog, row):
        """The circuit goes with the program along the row; how many instants, and if it ends unsure."""
        circuit = circuit_of(prog)
        self.assertTrue(is_circuit(circuit))
        self.assertEqual((circuit[0], len(circuit[3])), (len(prog[0]), len(prog[0]) + len(prog[1]) + 2))
        self.assertEqual([bit for bit, _ in circuit[1]], [0] * (1 + doubled(prog[2], "pause")))
        state, held = prog[2], tuple(bit for bit, _ in circuit[1])
        for at, given in enumerate(row):
            told = plainwords.react(prog, state, given)
            both = instant(circuit, given, held)
            if told is None:
                self.assertIsNone(both, (prog, row))
                return at + 1, True
            self.assertIsNotNone(both, (prog, row))
            totals, code, state = told
            self.assertEqual(both[0], totals + (1 - code, code), (prog, row))
            held = both[1]
        return len(row), False

    def follow_all(self, programs, rows, many, most):
        unsure, done = 0, 0
        for seed, prog in enumerate(programs):
            rng = random.Random(seed)
            for _ in range(rows):
                row = [tuple(rng.randint(0, 1) for _ in prog[0]) for _ in range(most)]
                count, ends = self.follows(prog, row)
                unsure += ends
                done += count
        self.assertGreater(unsure, many)
        self.assertGreater(done, len(programs) * rows)

    def test_drawn_programs(self):
        self.follow_all(drawnwords.programs(500, 16), 2, 60, 6)

    def test_drawn_great_programs(self):
        programs = [prog for prog in drawnwords.programs(120, 45, start=5000) if doubled(prog[2], "pause") < 60]
        self.follow_all(programs, 2, 30, 6)

    def test_loops_locals_traps_suspends(self):
        self.follow_all(drawnprograms.whirls(420), 3, 60, 8)

    def test_one_program_along_all_rows(self):
        for prog in drawnprograms.whirls(30, start=3000):
            for first in itertools.product([(0, 0), (0, 1), (1, 0), (1, 1)], repeat=3):
                self.follows(prog, first)

    def test_by_hand(self):
        circuit = circuit_of(((), ("o",), ("loop", ("seq", ("emit", "o"), PAUSE))))
        self.assertEqual(len(circuit[1]), 3)
        held = (0, 0, 0)
        for _ in range(5):
            outputs, held = instant(circuit, (), held)
            self.assertEqual(outputs, (1, 0, 1))
        for prog in (HAND, UNSURE, NO_WAY, ((), (), NOTHING), ((), (), PAUSE), (("a",), (), ("emit", "a")),
                     (("a",), ("o", "p"), ("if", "p", PAUSE, ("emit", "o"))), (tuple("abcdefgh"), tuple("ijklmnop"), PAUSE)):
            for given in itertools.product((0, 1), repeat=len(prog[0])):
                self.follows(prog, [given] * 4)

    def test_a_local_begun_anew_in_the_instant_in_which_it_ends(self):
        # The old s is there, the new one is not: o must not come of the new one.
        body = ("loop", ("local", "s", ("seq", ("if", "s", ("emit", "o"), NOTHING), ("seq", PAUSE, ("emit", "s")))))
        self.follows(((), ("o",), body), [()] * 6)
        # Three times in one instant, by loops within one another.
        inner = ("trap", ("par", ("loop", ("local", "s", ("seq", ("if", "s", ("emit", "o"), ("emit", "p")), (
            "seq", PAUSE, ("emit", "s"))))), ("seq", PAUSE, ("seq", PAUSE, ("exit", 0)))))
        for outer in (("loop", inner), ("loop", ("local", "t", ("seq", inner, ("if", "t", ("emit", "o"), ("emit", "t")))))):
            self.follows(((), ("o", "p"), outer), [()] * 9)
            self.follows((("a",), ("o", "p"), ("suspend", "a", outer)), [(0,), (1,), (0,), (0,), (1,), (0,), (0,), (0,), (0,)])

    def test_exits_of_both_sides(self):
        for one in range(3):
            for other in range(3):
                both = ("par", ("seq", PAUSE, ("exit", one)), in_row(("emit", "o"), PAUSE, ("if", "a", PAUSE, ("exit", other))))
                body = ("trap", in_row(("trap", in_row(("trap", in_row(both, ("emit", "p"))), ("emit", "q"), PAUSE)), ("emit", "r"), PAUSE))
                for tail in ((0, 0), (1, 0), (0, 1), (1, 1)):
                    self.follows((("a",), ("o", "p", "q", "r"), body), [(0,)] + [(bit,) for bit in tail] * 2)

    def test_one_side_ended_ahead_of_the_other(self):
        for one in (NOTHING, PAUSE, ("seq", PAUSE, PAUSE), ("exit", 0), ("seq", PAUSE, ("exit", 0))):
            for other in (NOTHING, PAUSE, ("seq", PAUSE, PAUSE), ("seq", PAUSE, ("exit", 1)), ("loop", PAUSE)):
                for around in (("suspend", "a"), ("local", "s"), ("seq", ("if", "a", PAUSE, NOTHING))):
                    for row in itertools.product([(0,), (1,)], repeat=4):
                        body = traps(2, ("seq", around + (("par", one, other),), ("emit", "o")))
                        self.follows((("a",), ("o",), body), row)

    def test_an_unsure_signal_of_a_suspend(self):
        for inner in (PAUSE, in_row(PAUSE, ("emit", "s")), ("par", PAUSE, in_row(PAUSE, ("emit", "o")))):
            for more in (NOTHING, ("emit", "s"), ("if", "s", ("emit", "s"), NOTHING), ("if", "o", ("emit", "s"), NOTHING)):
                body = ("local", "s", ("par", ("suspend", "s", inner), ("seq", PAUSE, more)))
                self.follows((("a",), ("o",), body), [(0,)] * 4)

    def test_dead_ones_count(self):
        halt = ("loop", PAUSE)
        for body, many in ((in_row(halt, PAUSE), 4), (in_row(halt, halt), 5), (("loop", ("loop", PAUSE)), 5),
                           (("local", "s", ("if", "s", ("loop", PAUSE), PAUSE)), 4),
                           (("trap", ("loop", ("seq", ("exit", 0), PAUSE))), 3)):
            self.assertEqual(len(circuit_of(((), ("o",), body))[1]), many)
            self.follows(((), ("o",), body), [()] * 4)


class Limits(Contract):
    def refused(self, prog):
        with self.assertRaises(TooMany) as caught:
            circuit_of(prog)
        return caught.exception.most

    def test_sixty_registers(self):
        for many in range(50, 64):
            rest = many - 31
            for body in (beside(in_row(*[PAUSE] * 30), in_row(*[PAUSE] * rest)), broad(2 * (many - 1) - 1)):
                prog = ((), (), body)
                self.assertEqual(doubled(body, "pause") + 1, many)
                self.assertTrue(is_program(prog))
                if many > 60:
                    self.assertEqual(self.refused(prog), 60)
                else:
                    self.assertEqual(len(circuit_of(prog)[1]), many)

    def test_loops_count_twice(self):
        body = broad(5)
        for levels in range(1, 40):
            body = ("loop", body)
            many = 3 * 2 ** levels + 1
            if many > 60:
                self.assertEqual(self.refused(((), (), body)), 60)
            else:
                self.assertEqual(len(circuit_of(((), (), body))[1]), many)
            if levels == 36:
                break

    def test_loops_without_pauses(self):
        body = ("exit", 0)
        for _ in range(37):
            body = ("loop", body)
        prog = ((), ("o",), ("trap", ("seq", ("emit", "o"), body)))
        self.assertTrue(is_program(prog))
        try:
            self.assertEqual(instant(circuit_of(prog), (), (0,))[0], (1, 1, 0))
        except TooMany as error:
            self.assertEqual(error.most, 2000)

    def test_too_many_gates(self):
        # 57 pauses at the end of bodies that are written again and again.
        row = in_row(*[("if", "a", ("emit", "o"), ("emit", "p"))] * 20, PAUSE)
        body = ("loop", ("loop", ("loop", ("loop", ("loop", row)))))
        prog = (("a",), ("o", "p"), body)
        self.assertEqual(doubled(body, "pause"), 32)
        self.assertTrue(is_program(prog))
        try:
            circuit = circuit_of(prog)
            self.assertTrue(is_circuit(circuit))
        except TooMany as error:
            self.assertEqual(error.most, 2000)
        # More registers than may be are told ahead of gates.
        self.assertEqual(self.refused((("a",), ("o", "p"), ("loop", body))), 60)

    def test_bodies_of_a_hundred_are_never_refused(self):
        most = 0
        for prog in self.hundreds():
            self.assertLessEqual(doubled(prog[2], None), 100)
            self.assertTrue(is_program(prog))
            circuit = circuit_of(prog)
            most = max(most, len(circuit[2]))
        self.assertLess(most, 2000)

    def hundreds(self):
        rng = random.Random(7)
        for seed in range(3000):
            prog = drawnwords.programs(1, 100, start=seed)[0]
            if 70 <= doubled(prog[2], None) <= 100:
                yield prog
        leaves = (NOTHING, PAUSE, ("suspend", "a", PAUSE), ("emit", "o"), ("local", "s", PAUSE), ("loop", PAUSE))
        for many in range(1, 21):
            deep = PAUSE
            for number in range(many):
                deep = ("if", "a", ("exit", number), deep)
            for core in (deep, ("par", deep, deep), beside(*[("exit", number) for number in range(many)], PAUSE)):
                body = traps(many, core)
                for _ in range(60):
                    prog = (("a",), ("o",), body)
                    if not is_program(prog) or doubled(body, None) > 100:
                        break
                    yield prog
                    core = ("par",) + tuple(rng.sample([rng.choice(leaves), core], 2))
                    if rng.random() < 0.1:
                        core = ("suspend", "a", core)
                    body = traps(many, core)
        # Many locals, all emitted at many places.
        names = ["s" + letter for letter in "abcdefghij"]
        emits = in_row(*[("emit", name) for name in names * 2])
        yield (("a",), ("o",), locals_around(names, ("par", emits, ("suspend", "sa", in_row(*[PAUSE] * 20)))))

    def test_great_programs(self):
        # A program of two hundred statements and one of forty levels.
        rng = random.Random(3)
        body = in_row(*[rng.choice([("emit", "o"), ("if", "a", ("emit", "p"), NOTHING), PAUSE]) for _ in range(38)])
        Wired.follows(self, (("a",), ("o", "p"), body), [(rng.randint(0, 1),) for _ in range(20)])
        body = beside(*[broad(19)] * 5, *[("if", "a", PAUSE, NOTHING)] * 25)
        self.assertEqual(plainwords.size(body, 40, False), 199)
        self.assertEqual(self.refused((("a",), (), body)), 60)
        body = beside(*[broad(9)] * 5, *[("if", "a", PAUSE, NOTHING)] * 29)
        Wired.follows(self, (("a",), (), ("trap", body)), [(1,), (0,), (1,)])


class Wrong(Contract):
    def test_kept_and_wrong(self):
        for prog in drawnprograms.whirls(20) + [HAND, UNSURE]:
            self.kept(circuit_of, ("program",), (prog,))
        for prog in (HAND, ((), (), ("loop", PAUSE))):
            self.wrong_values(circuit_of, (prog,), 0, BadProgram, plainwords.program, least=100, more=[
                ((), (), ("hold", "a", PAUSE)), (("a",), (), ("hold", "a", PAUSE)), ((), (), ("exit", 0)), ((), (), ("emit", "a")),
                (["a"], (), PAUSE), (("a", "a"), (), PAUSE), (("a",), ("a",), PAUSE), ((), ()), [(), (), PAUSE], ((), (), None)])
