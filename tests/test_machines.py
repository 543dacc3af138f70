import random

from restsure.errors import BadMachine, BadProgram, BadRow, BadState, NotSure, TooMany
from restsure.machines import is_machine, least, machine_of, parted, run_machine
from restsure.reached import reached
from restsure.sureness import sure_paper
from tests import drawnmachines, drawnprograms, plainly, plainprograms, plainwords
from tests.contract import Contract
from tests.drawnmachines import COUNTS, ENDS, ONE_STATE, TWICE
from tests.drawnprograms import clock, in_row
from tests.drawnwords import HAND, NOTHING, PAUSE, UNSURE
from tests.test_reached import FITS, LATE, TOO_GREAT, most_of
from tests.values import changed, every_kind

MACHINES = drawnmachines.machines(160)
PROGRAMS = drawnprograms.small_inputs(120) + drawnprograms.whirls(40) + [HAND]


class IsMachine(Contract):
    def test_forms(self):
        for what in MACHINES:
            self.assertIs(self.kept(is_machine, ("thing",), (what,)), True)
            self.assertTrue(plainprograms.machine(what))

    def test_one_thing_otherwise(self):
        told = {True: 0, False: 0}
        for what in (ONE_STATE, COUNTS, TWICE, ENDS, (0, 0, ((((), None),),))):
            more = self.judges(is_machine, plainprograms.machine, list(changed(what)) + every_kind() + [what])
            told = {verdict: told[verdict] + more[verdict] for verdict in told}
        self.assertGreater(min(told.values()), 20)

    def test_edges(self):
        state = tuple((given, 0) for given in plainly.all_bits(2))
        self.assertTrue(is_machine((2, 0, (state,) * 200)))
        self.assertFalse(is_machine((2, 0, (state,) * 201)))
        self.assertFalse(is_machine((2, 0, ())))
        self.assertFalse(is_machine((2, 0, [state])))
        self.assertFalse(is_machine((2, 0, (state[:3],))))
        self.assertFalse(is_machine((2, 0, (state + state[:1],))))
        # Totals below what is given, and above it.
        self.assertFalse(is_machine((2, 0, (state[:3] + (((1, 0), 0),),))))
        self.assertTrue(is_machine((2, 0, ((((1, 1), 0),) + state[1:],))))
        self.assertFalse(is_machine((2, 0, (state[:3] + (((1, 1), 1),),))))
        self.assertFalse(is_machine((2, 0, (state[:3] + (((1, True), 0),),))))
        self.assertFalse(is_machine((2, 0, (state[:3] + (((1, 1), False),),))))
        self.assertFalse(is_machine((2, False, (state,))))
        wide = tuple((given + (1,) * 8, None) for given in plainly.all_bits(8))
        self.assertTrue(is_machine((8, 8, (wide,))))
        self.assertFalse(is_machine((8, 9, (wide,))))
        self.assertFalse(is_machine((9, 8, (wide + wide,))))
        self.assertTrue(is_machine((0, 0, ((((), None),),))))


class OfPrograms(Contract):
    def test_drawn(self):
        sure = 0
        for prog in PROGRAMS:
            states, table = plainprograms.reached(prog)
            paper = sure_paper(prog)
            if paper[0] == "unsure":
                for _ in range(2):
                    with self.assertRaises(NotSure) as caught:
                        machine_of(prog)
                    self.assertEqual(repr(caught.exception.row), repr(paper[1]))
                continue
            sure += 1
            what = self.kept(machine_of, ("program",), (prog,))
            self.assertTrue(plainprograms.machine(what))
            self.assertEqual(what[:2], (len(prog[0]), len(prog[1])))
            gone = states.index(None) if None in states else len(states)
            numbers = [number if number < gone else number - 1 for number in range(len(states))]
            wanted = [tuple((told[0], None if told[2] == gone else numbers[told[2]]) for told in row)
                      for number, row in enumerate(table) if number != gone]
            self.assertEqual(what[2], tuple(wanted))
            for row in [row for row in plainprograms.rows_up_to(what[0], 3)][-20:]:
                self.assertEqual(run_machine(what, row), plainprograms.tell(prog, row))
        self.assertGreater(sure, 100)

    def test_by_hand(self):
        self.assertEqual(machine_of(HAND), (1, 1, ((((0, 0), 1), ((1, 1), None)), (((0, 0), None), ((1, 0), None)))))
        self.assertEqual(machine_of(((), (), NOTHING)), (0, 0, ((((), None),),)))
        # The ended one in the midst of the others.
        prog = (("a",), (), ("if", "a", in_row(PAUSE, PAUSE), NOTHING))
        self.assertEqual(reached(prog)[0].index(None), 1)
        self.assertEqual(machine_of(prog)[2], ((((0,), None), ((1,), 1)), (((0,), 2), ((1,), 2)), (((0,), None), ((1,), None))))

    def test_refused(self):
        with self.assertRaises(NotSure) as caught:
            machine_of(LATE)
        self.assertEqual(caught.exception.row, ((0, 0), (1, 1)))
        self.assertIsInstance(caught.exception.row, tuple)
        self.assertEqual(most_of(lambda: machine_of(((), (), clock(18, 13, 14)))), 200)
        self.assertEqual(most_of(lambda: machine_of(TOO_GREAT)), 2000)
        self.assertTrue(is_machine(machine_of(FITS)))
        # More states than may be are told ahead of an unsure instant.
        self.assertEqual(most_of(lambda: machine_of((("a",), ("o",), ("if", "a", UNSURE[2], clock(18, 13, 14))))), 200)
        self.wrong_values(machine_of, (HAND,), 0, BadProgram, plainwords.program, least=100)

    def test_two_hundred_states(self):
        what = machine_of(((), (), clock(17, 13, 14)))
        self.assertEqual(len(what[2]), 200)
        small = least(what)
        self.assertEqual(small, (0, 0, ((((), 0),),)))
        ended = machine_of((("a",), (), ("if", "a", NOTHING, clock(16, 13, 14))))
        self.assertEqual(len(ended[2]), 199)
        inputs, outputs = tuple("abcdefgh"), tuple("ijklmno")
        what = machine_of((inputs, outputs, drawnprograms.toggles(inputs, outputs)))
        self.assertEqual(len(what[2]), 129)
        # Where it begins it does not ask yet.
        self.assertEqual(least(what), what)


class Running(Contract):
    def test_drawn(self):
        rng = random.Random(5)
        for what in MACHINES:
            row = [tuple(rng.randint(0, 1) for _ in range(what[0])) for _ in range(8)]
            told = self.kept(run_machine, ("machine", "row"), (what, row))
            self.assertEqual(repr(told), repr(plainprograms.run(what, row)))
            self.alike_lists(run_machine, (what, row), 1)

    def test_edges(self):
        self.assertEqual(run_machine(COUNTS, []), [])
        self.assertEqual(run_machine(ENDS, [(1,), (0,), (1,)]), [((1, 1), 0), ((0, 0), 0), ((1, 0), 0)])
        self.assertEqual(len(run_machine(COUNTS, [(1,)] * 400)), 400)
        self.refuses(BadRow, run_machine, (COUNTS, [(1,)] * 401))

    def test_wrong_ones(self):
        self.wrong_values(run_machine, (COUNTS, [(0,), (1,)]), 0, BadMachine, plainprograms.machine, least=100)
        self.wrong_values(run_machine, (COUNTS, [(0,), (1,)]), 1, BadRow, lambda x: plainprograms.row(x, 1), least=80,
                          more=[[(True,)], [[0]], [(0, 0)], {(0,): 1}, ((0,), None)])
        self.first_error(run_machine, (COUNTS, []), (BadMachine, BadRow))


class Parting(Contract):
    def test_drawn(self):
        told = {}
        for what in MACHINES:
            states = list(range(len(what[2]))) + [None]
            same = plainprograms.same_pairs(what, what)
            for one in states:
                for other in states:
                    row = self.kept(parted, ("machine", "one", "other"), (what, one, other))
                    self.assertEqual(row is None, (one, other) in same)
                    if row is not None:
                        wanted = plainprograms.first_parting(what, one, other, min(len(row), 4 if what[0] == 2 else 6))
                        if len(row) <= (4 if what[0] == 2 else 6):
                            self.assertEqual(repr(row), repr(wanted))
                        else:
                            self.assertIsNone(wanted)
                        self.assertNotEqual(plainprograms.run(what, row, one), plainprograms.run(what, row, other))
                        told[len(row)] = told.get(len(row), 0) + 1
        self.assertGreater(min(told.get(many, 0) for many in (1, 2, 3)), 10)

    def test_by_hand(self):
        self.assertIsNone(parted(COUNTS, 0, 0))
        self.assertIsNone(parted(COUNTS, None, None))
        self.assertEqual(parted(COUNTS, 0, 2), ((0,),))
        self.assertEqual(parted(COUNTS, 0, 1), ((0,), (0,)))
        self.assertEqual(parted(COUNTS, None, 0), ((0,),))
        self.assertIsNone(parted(TWICE, 0, 1))
        # A state that tells what the ended one does is not parted from it.
        quiet = (0, 1, ((((1,), 1),), (((0,), None),)))
        self.assertIsNone(parted(quiet, 1, None))
        self.assertIsNone(parted(quiet, None, 1))
        self.assertEqual(parted(quiet, 0, None), ((),))

    def test_two_hundred_states(self):
        ring = (1, 1, tuple((((0, int(at == 199)), (at + 1) % 200), ((1, int(at == 199)), at)) for at in range(200)))
        self.assertEqual(parted(ring, 0, 1), ((0,),) * 199)
        self.assertEqual(parted(ring, 5, None), ((0,),))
        self.assertEqual(least(ring), ring)
        wide = (8, 0, tuple(tuple((given, (at + 1) % 200 if at < 199 or given[0] else None) for given in plainly.all_bits(8)) for at in range(200)))
        self.assertEqual(parted(wide, 1, 0), ((0,) * 8,) * 199)
        self.assertEqual(least(wide), wide)

    def test_wrong_ones(self):
        args = (COUNTS, 1, None)
        self.wrong_values(parted, args, 0, BadMachine, plainprograms.machine, least=100)
        for place in (1, 2):
            self.wrong_values(parted, args, place, BadState, lambda x: x is None or plainly.number(x, 0, 2), least=60, more=[3, -1, True, False])
        self.first_error(parted, args, (BadMachine, BadState, BadState))


class Least(Contract):
    def test_drawn(self):
        smaller = 0
        for what in MACHINES:
            small = self.kept(least, ("machine",), (what,))
            self.assertTrue(plainprograms.machine(small))
            self.assertEqual(small[:2], what[:2])
            self.assertIn((0, 0), plainprograms.same_pairs(what, small))
            self.assertEqual(least(small), small)
            # No two of its states tell the same, and all are found in this sequence.
            same = plainprograms.same_pairs(small, small)
            states = range(len(small[2]))
            self.assertFalse([pair for pair in same if None not in pair and pair[0] != pair[1]])
            found = [0]
            for at in states:
                self.assertLess(at, len(found))
                for _, following in small[2][at]:
                    if following is not None and following not in found:
                        self.assertEqual(following, len(found))
                        found.append(following)
            self.assertEqual(found, list(states))
            for one in states:
                for other in states:
                    if one != other:
                        self.assertLess(len(parted(small, one, other)), len(small[2]) + 1)
            smaller += len(small[2]) < len(what[2])
        self.assertGreater(smaller, 30)

    def test_equal_exactly_if_they_tell_the_same(self):
        told = {True: 0, False: 0}
        for one in MACHINES:
            for other in MACHINES:
                if one[:2] == other[:2] == (one[0] % 2, one[1]):
                    same = (0, 0) in plainprograms.same_pairs(one, other)
                    self.assertEqual(least(one) == least(other), same)
                    told[same] += 1
        self.assertGreater(min(told.values()), 60)

    def test_by_hand(self):
        self.assertEqual(least(TWICE), (1, 1, (TWICE[2][0],)))
        self.assertEqual(least(ENDS), ENDS)
        # States that are not found, and one that tells what the ended one does.
        what = (0, 1, ((((1,), 2),), (((1,), 1),), (((0,), None),), (((0,), None),)))
        self.assertEqual(least(what), (0, 1, ((((1,), 1),), (((0,), None),))))
        self.assertEqual(least((0, 1, ((((1,), 2),), (((1,), 3),), (((1,), 1),), (((1,), 0),)))), (0, 1, ((((1,), 0),),)))

    def test_wrong_ones(self):
        self.wrong_values(least, (COUNTS,), 0, BadMachine, plainprograms.machine, least=100)

    def test_too_many_is_not_of_machines(self):
        self.assertEqual(TooMany(200).most, 200)
        self.assertEqual(least((0, 0, ((((), 0),),) * 200)), (0, 0, ((((), 0),),)))
