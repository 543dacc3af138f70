import itertools
import random

from restsure.errors import BadCases, BadCircuit, BadLine, TooMany, Unsure
from restsure.fewest import fewest_line, is_fewest, standing_behind
from tests import drawn, plainlines, plainly
from tests.contract import Contract
from tests.drawn import AND, NOT, OR, SAME
from tests.test_lines import SMALL, SMALL_CASES, drawn_line, unsure_index
from tests.values import changed, every_kind

DRAWN = drawn.lots_of(110) + drawn.lots_of(30, most_gates=6, most_sources=3) + drawn.BY_HAND


def whole_ones():
    """Pairs of drawn circuits and of some cases at which they are whole."""
    rng = random.Random(8)
    for what in DRAWN:
        whole = plainlines.whole_cases(what)
        rng.shuffle(whole)
        for cases in (whole, whole[:2], whole[:1]):
            if cases:
                yield what, cases


def constants(many):
    """So many gates of no sources: each lot of them is a standing."""
    return (0, (), ((((), (1,))),) * many, ())


def shortest(what, cases):
    """The length of a shortest line that settles all cases, by all lines, length by length."""
    for many in range(20):
        for line in itertools.product(range(len(what[2])), repeat=many):
            if plainlines.settles(what, line, cases):
                return many
    return None


class Standings(Contract):
    def test_behind_drawn_lines(self):
        rng = random.Random(1)
        for what in DRAWN:
            every = plainlines.all_cases(what)
            for cases in (every, [rng.choice(every)] * 2):
                line = drawn_line(rng, what)
                told = self.kept(standing_behind, ("circuit", "line", "cases"), (what, line, cases))
                self.alike_lists(standing_behind, (what, line, cases), 2)
                self.assertEqual(repr(told), repr(plainlines.standing(what, line, cases)))

    def test_by_hand(self):
        self.assertEqual(standing_behind(SMALL, (), SMALL_CASES[:2]), ((None, None), (None, None)))
        self.assertEqual(standing_behind(SMALL, (0,), SMALL_CASES[:2]), ((0, None), (None, None)))
        self.assertEqual(standing_behind(drawn.EMPTY, (), [((), ())] * 3), ((), (), ()))
        many = standing_behind((1, (), ((((("in", 0),)), SAME),), ()), (0,), [((1,), ()), ((0,), ())] * 2048)
        self.assertEqual(many, ((1,), (0,)) * 2048)

    def test_wrong_ones(self):
        args = (SMALL, (0, 1, 0), SMALL_CASES)
        self.wrong_values(standing_behind, args, 0, BadCircuit, plainly.circuit, least=100)
        self.wrong_values(standing_behind, args, 1, BadLine, lambda x: plainlines.line(SMALL, x), least=100)
        self.wrong_values(standing_behind, args, 2, BadCases, lambda x: plainlines.cases(SMALL, x), least=100)
        self.first_error(standing_behind, args, (BadCircuit, BadLine, BadCases))


class Fewest(Contract):
    def is_right(self, what, cases):
        """What is told is a shortest line and a paper for it; the standings behind lines."""
        line, paper = fewest_line(what, cases)
        found = plainlines.standings(what, cases)
        self.assertTrue(plainlines.settles(what, line, cases))
        done = [one for one in found if not any(None in gates for gates in one)]
        self.assertEqual([found[one] for one in done], [len(line)])
        self.assertTrue(plainlines.is_fewest(what, cases, line, paper))
        self.assertIs(is_fewest(what, cases, line, paper), True)
        return line, paper, found

    def test_drawn(self):
        tried, lengths = 0, set()
        for what, cases in whole_ones():
            self.kept(fewest_line, ("circuit", "cases"), (what, cases))
            self.alike_lists(fewest_line, (what, cases), 1)
            line, paper, found = self.is_right(what, cases)
            lengths.add(len(line))
            if len(what[2]) <= 3 and len(line) <= 6:
                self.assertEqual(shortest(what, cases), len(line))
                tried += 1
            # No paper lets a longer line by, nor one of a gate less.
            if len(what[2]):
                self.assertFalse(is_fewest(what, cases, line + (0,), paper))
                self.assertFalse(is_fewest(what, cases, line[:-1], paper))
        self.assertGreater(tried, 60)
        self.assertGreaterEqual(max(lengths), 6)

    def test_the_length_of_lines_that_serve_several_cases(self):
        # One case goes round the ring one way, the other one the other way.
        gates = (((("in", 0), ("gate", 1)), AND), ((("in", 1), ("gate", 0)), AND))
        what = (2, (), gates, ())
        for cases, many in (([((0, 1), ())], 2), ([((1, 0), ())], 2), ([((0, 1), ()), ((1, 0), ())], 3)):
            self.assertEqual(len(self.is_right(what, cases)[0]), many)
        ring = (3, (), tuple(((("in", at), ("gate", (at + 1) % 3)), OR) for at in range(3)), ())
        cases = [((1, 0, 0), ()), ((0, 1, 0), ()), ((0, 0, 1), ())]
        self.assertEqual(len(self.is_right(ring, cases)[0]), shortest(ring, cases))

    def test_unsure(self):
        told = 0
        for what in DRAWN:
            every = plainlines.all_cases(what)
            index = unsure_index(what, every)
            if index is None:
                continue
            told += 1
            with self.assertRaises(Unsure) as caught:
                fewest_line(what, every)
            self.assertEqual(caught.exception.index, index)
            self.assertIs(is_fewest(what, every, (), ()), False)
        self.assertGreater(told, 30)

    def test_how_many_standings_there_may_be(self):
        # Lots of 11 gates are 2048 standings; with a chain beside them just 3000, and one more.
        for many, right in ((11, True), (12, False), (2000, False)):
            self.counts(constants(many), 2 ** many, right, told=many == 11)
        self.counts((0, (), drawn.wires(2000), ()), 2001, True, told=False)
        # A chain of k gates has k + 1 standings, several chains the product.
        self.counts((0, (), chains(4, 5, 9, 9), ()), 3000, True)
        self.counts((0, (), chains(2, 999), ()), 3000, True, told=False)
        self.counts((0, (), chains(6, 10, 38), ()), 3003, False, told=False)
        # Just one more: a gate behind the ends of chains that have 3000.
        gates = chains(4, 5, 9, 9)
        ends = tuple(("gate", at) for at in (3, 8, 17, 26))
        self.counts((0, (), gates + ((ends, (1,) * 16),), ()), 6000, False, told=False)
        self.counts((0, (), gates + ((ends, (0,) * 15 + (1,)),), ()), 3001, False)

    def counts(self, what, many, right, told=True):
        cases = [((), ())]
        if told:
            self.assertEqual(len(plainlines.standings(what, cases)), many)
        if right:
            line, paper = fewest_line(what, cases)
            self.assertEqual((len(line), len(paper)), (len(what[2]), many))
            if len(line) < 100:
                self.assertTrue(is_fewest(what, cases, line, paper))
        else:
            with self.assertRaises(TooMany) as caught:
                fewest_line(what, cases)
            self.assertEqual(caught.exception.most, 3000)

    def test_sequence_of_errors(self):
        loose = (0, (), ((((), (1,))),) * 12 + (((("gate", 12),), SAME),), ())
        with self.assertRaises(Unsure):
            fewest_line(loose, [((), ())])
        self.refuses(BadCases, fewest_line, (loose, []))

    def test_wrong_ones(self):
        args = (SMALL, SMALL_CASES)
        self.wrong_values(fewest_line, args, 0, BadCircuit, plainly.circuit, least=100)
        self.wrong_values(fewest_line, args, 1, BadCases, lambda x: plainlines.cases(SMALL, x), least=100)
        self.first_error(fewest_line, args, (BadCircuit, BadCases))
        args = (SMALL, SMALL_CASES[:1]) + fewest_line(SMALL, SMALL_CASES[:1])
        self.assertIs(self.kept(is_fewest, ("circuit", "cases", "line", "paper"), args), True)
        self.wrong_values(is_fewest, args, 0, BadCircuit, plainly.circuit, least=100)
        self.wrong_values(is_fewest, args, 1, BadCases, lambda x: plainlines.cases(SMALL, x), least=100)
        self.first_error(is_fewest, args, (BadCircuit, BadCases, None, None))
        self.alike_lists(is_fewest, args, 1)


def chains(*many):
    """Chains of so many gates side by side."""
    gates = ()
    for length in many:
        first = len(gates)
        gates += (((), (1,)),) + tuple(((("gate", first + at),), SAME) for at in range(length - 1))
    return gates


class Papers(Contract):
    def judged(self, what, cases, line, papers):
        return self.judges(lambda paper: is_fewest(what, cases, line, paper),
                           lambda paper: plainlines.is_fewest(what, cases, line, paper), papers)

    def test_one_thing_otherwise(self):
        rng = random.Random(4)
        told = {True: 0, False: 0}
        for what, cases in whole_ones():
            line, paper = fewest_line(what, cases)
            if len(paper) > 40:
                continue
            papers = near_papers(rng, paper)
            if len(paper) <= 4:
                papers += list(changed(paper))[:300]
            for verdict, many in self.judged(what, cases, line, papers).items():
                told[verdict] += many
        self.assertGreater(told[True], 300)
        self.assertGreater(told[False], 1000)

    def test_pairs_that_no_line_leads_to(self):
        what = (0, (), drawn.wires(2), ())
        cases = [((), ())]
        line, paper = fewest_line(what, cases)
        self.assertEqual(line, (0, 1))
        strange = ((None, 1),)
        # It goes over to itself, to None once more, and to what is settled.
        self.assertTrue(is_fewest(what, cases, line, paper + ((strange, 1),)))
        self.assertTrue(is_fewest(what, cases, line, paper + ((strange, 0),)))
        self.assertFalse(is_fewest(what, cases, line, paper + ((strange, 2),)))
        self.assertFalse(is_fewest(what, cases, line, paper + ((strange, 1), (strange, 1))))
        # A bit that the gate does not come to: it goes over to the one that it does come to.
        self.assertTrue(is_fewest(what, cases, line, paper + ((((0, None),), 1), (((0, 0),), 0), (((1, 0),), 0))))
        self.assertFalse(is_fewest(what, cases, line, paper + ((((0, None),), 1), (((0, 0),), 0))))
        self.assertFalse(is_fewest(what, cases, line, paper + ((((0, None),), 1),)))
        self.assertFalse(is_fewest(what, cases, line, paper + ((((0, 0),), 1),)))
        extra = (0, (), drawn.wires(1) + (((), (1,)),), ())
        self.assertEqual(self.judged(extra, cases, (0, 1), [fewest_line(extra, cases)[1] + ((((0, 0),), 0),)]), {True: 0, False: 1})

    def test_the_standing_behind_nothing(self):
        what = (0, (), drawn.wires(2), ())
        line, paper = fewest_line(what, [((), ())])
        self.assertFalse(is_fewest(what, [((), ())], line, paper[1:]))
        self.assertFalse(is_fewest(what, [((), ())], line, ()))
        self.assertTrue(is_fewest(what, [((), ())], line, tuple(reversed(paper))))
        self.assertFalse(is_fewest(what, [((), ())], line, paper[:-1]))
        self.assertEqual(fewest_line(drawn.EMPTY, [((), ())] * 2), ((), ((((), ()), 0),)))
        self.assertTrue(is_fewest(drawn.EMPTY, [((), ())], (), ((((),), 0),)))
        self.assertFalse(is_fewest(drawn.EMPTY, [((), ())], (), ((((),), 1),)))

    def test_numbers(self):
        what, cases = constants(3), [((), ())]
        line, paper = fewest_line(what, cases)
        for at in range(len(paper)):
            for number in (-1, True, False, None, "1", (0,), 10 ** 8) + tuple(range(5)):
                bent = paper[:at] + ((paper[at][0], number),) + paper[at + 1:]
                self.judged(what, cases, line, [bent])

    def test_lines_and_papers_of_other_values(self):
        what, cases = SMALL, SMALL_CASES
        line, paper = fewest_line(what, cases)
        self.judged(what, cases, line, every_kind() + [list(paper), (paper,), paper + ((),)])
        for value in every_kind() + list(changed(line)) + [line * 7000, list(line)]:
            self.assertIs(is_fewest(what, cases, value, paper), plainlines.is_fewest(what, cases, value, paper))
        for other in itertools.permutations(line):
            self.assertIs(is_fewest(what, cases, other, paper), plainlines.is_fewest(what, cases, other, paper))

    def test_3000_pairs_and_more(self):
        for lengths, right in (((4, 5, 9, 9), False), ((4, 5, 9, 8), True)):
            what, cases = (0, (), chains(*lengths), ()), [((), ())]
            line, paper = fewest_line(what, cases)
            self.assertTrue(is_fewest(what, cases, line, paper))
            # A wrong bit that no gate reads is set right by its own gate, so this is let by, too.
            strange = ((1,) * (len(what[2]) - 1) + (0,),)
            self.assertEqual(len(paper) + 1 <= 3000, right)
            self.assertIs(is_fewest(what, cases, line, paper + ((strange, 0),)), right)

    def test_pairs_of_gates_that_turn(self):
        small, cases = (0, (), ((((), (1,))), ((("gate", 0),), NOT)), ()), [((), ())]
        line, paper = fewest_line(small, cases)
        strange = ((((0, 0),), 0), (((0, 1),), 0), (((1, 1),), 0))
        self.judged(small, cases, line, [paper + strange[:many] for many in range(4)] + [paper + strange[1:]])


def near_papers(rng, paper):
    """Papers with one pair left out, told twice, put in, or with one number otherwise."""
    found = [paper[:at] + paper[at + 1:] for at in range(len(paper))]
    at = rng.randrange(len(paper))
    found += [paper + paper[at:at + 1], list(paper), paper]
    for at, (one, number) in enumerate(paper):
        for other in (number + 1, number - 1, -1, bool(number), 0):
            found.append(paper[:at] + ((one, other),) + paper[at + 1:])
    at = rng.randrange(len(paper))
    one, number = paper[at]
    for case in range(len(one)):
        for gate in range(len(one[0])):
            for bit in (0, 1, None, True):
                row = one[case][:gate] + (bit,) + one[case][gate + 1:]
                bent = one[:case] + (row,) + one[case + 1:]
                found.append(paper[:at] + ((bent, number),) + paper[at + 1:])
                found.append(paper + ((bent, 0),))
                found.append(paper + ((bent, number),))
    return rng.sample(found, min(len(found), 40))
