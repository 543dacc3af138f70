import random

from restsure.errors import BadNumber, BadProgram, TooMany
from restsure.instants import is_shown_sure, react, run_program, shown_sure
from restsure.reached import reached, row_to
from restsure.statements import is_program, is_state
from restsure.sureness import is_sure_paper, sure_paper
from tests import drawnprograms, drawnwords, plainly, plainprograms, plainwords
from tests.contract import Contract
from tests.drawnprograms import clock, in_row
from tests.drawnwords import HAND, HAND_BODY, NO_WAY, NOTHING, PAUSE, UNSURE, broad, chain
from tests.values import changed, every_kind

# One that leads back to its body, so that it reaches one state alone.
AGAIN = ((), ("o",), ("seq", NOTHING, ("loop", PAUSE)))
PROGRAMS = drawnprograms.small_inputs(90) + drawnprograms.whirls(40) + [HAND, UNSURE, NO_WAY, AGAIN]
REACHED = [plainprograms.reached(prog) for prog in PROGRAMS]
# Sure at first, and unsure behind a.
LATE = (("a", "b"), ("o",), ("seq", PAUSE, in_row(("if", "a", NOTHING, PAUSE), ("if", "b", UNSURE[2], PAUSE), PAUSE)))


def loops_around(many, body):
    for _ in range(many):
        body = ("loop", body)
    return body


# Their first rests have 2000 and 2001 statements.
FITS = (("a",), (), loops_around(22, broad(75)))
TOO_GREAT = (("a",), (), loops_around(10, broad(176)))


def most_of(told):
    try:
        told()
    except TooMany as error:
        return error.most
    return None


class Reaching(Contract):
    def test_drawn(self):
        sizes = {}
        for prog, wanted in zip(PROGRAMS, REACHED):
            told = self.kept(reached, ("program",), (prog,))
            self.assertEqual(repr(told), repr(wanted))
            self.assertIsInstance(told[0], list)
            self.assertIsInstance(told[1], list)
            sizes[len(told[0])] = sizes.get(len(told[0]), 0) + 1
            for state in told[0]:
                self.assertTrue(is_state(prog, state))
        self.assertGreater(len(sizes), 6)

    def test_by_hand(self):
        rest = ("local", "s", NOTHING)
        self.assertEqual(reached(HAND), ([HAND_BODY, rest, None], [
            (((0, 0), 1, 1), ((1, 1), 0, 2)), (((0, 0), 0, 2), ((1, 0), 0, 2)), (((0, 0), 0, 2), ((1, 0), 0, 2))]))
        self.assertEqual(reached(UNSURE), ([UNSURE[2]], [(None,)]))
        self.assertEqual(reached(((), (), NOTHING)), ([NOTHING, None], [(((), 0, 1),), (((), 0, 1),)]))
        halt = ((), ("o",), ("loop", ("seq", ("emit", "o"), PAUSE)))
        states, table = reached(halt)
        self.assertEqual(len(states), 2)
        self.assertNotIn(None, states)
        self.assertEqual(table, [(((1,), 1, 1),), (((1,), 1, 1),)])
        self.assertEqual(reached(AGAIN), ([AGAIN[2]], [(((0,), 1, 0),)]))

    def test_rows_lead_there(self):
        for prog, (states, table) in zip(PROGRAMS, REACHED):
            self.assertEqual(row_to(prog, 0), ())
            for number, state in enumerate(states):
                row = self.kept(row_to, ("program", "number"), (prog, number))
                self.assertIsInstance(row, tuple)
                told = run_program(prog, row)
                if row:
                    self.assertEqual(told[-1][2], state)

    def test_rows_are_the_first_ones_of_the_shortest(self):
        for prog, (states, _) in list(zip(PROGRAMS, REACHED))[:110]:
            left = dict(enumerate(states))
            for row in plainprograms.rows_up_to(len(prog[0]), 3):
                state = prog[2]
                for given in row:
                    told = react(prog, state, given)
                    if told is None:
                        break
                    state = told[2]
                else:
                    number = plainprograms.place(states, state)
                    if number in left:
                        self.assertEqual(row_to(prog, number), row)
                        del left[number]

    def test_eight_inputs_and_none(self):
        eight = (tuple("abcdefgh"), tuple("ijklmnop"), in_row(*[("if", x, ("emit", y), NOTHING) for x, y in zip("abcdefgh", "ijklmnop")]))
        states, table = reached(eight)
        self.assertEqual(states, [eight[2], None])
        self.assertEqual(table[0], tuple((given + given, 0, 1) for given in plainly.all_bits(8)))
        self.assertEqual(table[1], tuple((given + (0,) * 8, 0, 1) for given in plainly.all_bits(8)))
        self.assertEqual(row_to(eight, 1), ((0,) * 8,))
        self.assertEqual(reached(((), (), PAUSE)), ([PAUSE, NOTHING, None], [(((), 1, 1),), (((), 0, 2),), (((), 0, 2),)]))

    def test_two_hundred_states(self):
        for lead, many in ((16, 199), (17, 200), (18, 201)):
            prog = ((), (), clock(lead, 13, 14))
            self.assertEqual(drawnprograms.clock_states(lead, 13, 14), many)
            if many > 200:
                for told in (lambda: reached(prog), lambda: row_to(prog, 0), lambda: sure_paper(prog), lambda: row_to(prog, None)):
                    self.assertEqual(most_of(told), 200)
                continue
            states, table = reached(prog)
            self.assertEqual((len(states), len(table)), (many, many))
            self.assertEqual(row_to(prog, many - 1), ((),) * (many - 1))
            paper = sure_paper(prog)
            self.assertEqual(paper[0], "sure")
            self.assertTrue(is_sure_paper(prog, paper))

    def test_two_hundred_with_the_ended_one(self):
        # Along (1,) it ends; the states of the ended one and of the clock are two hundred, then one more.
        for lead, many in ((16, 200), (17, 201)):
            body = ("if", "a", NOTHING, clock(lead, 13, 14))
            states = most_of(lambda: reached((("a",), (), body)))
            self.assertEqual(states, None if many == 200 else 200)
            if many == 200:
                told = reached((("a",), (), body))[0]
                self.assertEqual((len(told), told.index(None)), (200, 2))

    def test_many_states_and_eight_inputs(self):
        inputs, outputs = tuple("abcdefgh"), tuple("ijklmno")
        prog = (inputs, outputs, drawnprograms.toggles(inputs, outputs))
        states, table = reached(prog)
        self.assertEqual((len(states), {len(row) for row in table}), (129, {256}))
        self.assertEqual({told[1] for row in table for told in row}, {1})
        rng = random.Random(5)
        for _ in range(20):
            row = [tuple(rng.randint(0, 1) for _ in inputs) for _ in range(6)]
            number = 0
            for given, told in zip(row, run_program(prog, row)):
                index = int("".join(map(str, given)), 2)
                self.assertEqual(table[number][index][:2], told[:2])
                number = table[number][index][2]
                self.assertEqual(states[number], told[2])
        paper = sure_paper(prog)
        self.assertTrue(is_sure_paper(prog, paper))

    def test_rests_of_two_thousand(self):
        rest = react(FITS, FITS[2], (0,))[2]
        self.assertEqual(plainwords.size(rest, 80, True), 2000)
        self.assertIsNone(most_of(lambda: reached(FITS)))
        self.assertTrue(is_sure_paper(FITS, sure_paper(FITS)))
        self.assertEqual(plainwords.size(plainwords.remains(TOO_GREAT[2], {}), 80, True), 2001)
        self.assertTrue(is_program(TOO_GREAT))
        for told in (lambda: reached(TOO_GREAT), lambda: row_to(TOO_GREAT, 0), lambda: row_to(TOO_GREAT, "x"),
                     lambda: sure_paper(TOO_GREAT)):
            self.assertEqual(most_of(told), 2000)
        # What is met first is told.
        later = (("a",), (), in_row(*[PAUSE] * 3, ("if", "a", TOO_GREAT[2], PAUSE)))
        self.assertEqual(most_of(lambda: reached(later)), 2000)
        both = ((), (), ("par", clock(6, 13, 14), in_row(*[PAUSE] * 4, loops_around(20, broad(99)))))
        self.assertTrue(is_program(both))
        self.assertEqual(most_of(lambda: reached(both)), 2000)
        both = both[:2] + (("par", clock(17, 13, 14), in_row(PAUSE, ("loop", PAUSE))),)
        self.assertEqual(most_of(lambda: reached(both)), None)

    def test_wrong_ones(self):
        self.wrong_values(reached, (HAND,), 0, BadProgram, plainwords.program, least=100)
        self.wrong_values(row_to, (HAND, 1), 0, BadProgram, plainwords.program, least=100)
        self.wrong_values(row_to, (HAND, 1), 1, BadNumber, lambda x: plainly.number(x, 0, 2), least=60, more=[3, -1, True, False, None])
        self.first_error(row_to, (HAND, 1), (BadProgram, BadNumber))
        self.refuses(BadNumber, row_to, (UNSURE, 1))


class Sure(Contract):
    def test_drawn(self):
        words = {}
        for prog, (states, table) in zip(PROGRAMS, REACHED):
            paper = self.kept(sure_paper, ("program",), (prog,))
            self.assertTrue(plainprograms.is_sure_paper(prog, paper))
            self.assertIs(self.kept(is_sure_paper, ("program", "thing"), (prog, paper)), True)
            sure = all(None not in row for row in table)
            self.assertEqual(paper[0], "sure" if sure else "unsure")
            words[paper[0]] = words.get(paper[0], 0) + 1
            if sure:
                self.assertEqual((paper[1], len(paper)), (states, 3))
                self.assertEqual([type(item) for item in paper], [str, list, list])
                self.assertEqual({type(row) for row in paper[2]}, {tuple})
        self.assertGreater(min(words.values()), 20)

    def test_the_first_one_of_the_shortest_rows(self):
        many = 0
        for prog in [prog for prog in PROGRAMS + drawnwords.programs(150, 30, start=7000)]:
            row = next((row for row in plainprograms.rows_up_to(len(prog[0]), 3) if plainprograms.tell(prog, row)[-1:] == [None]), None)
            if row is None or most_of(lambda: sure_paper(prog)):
                continue
            paper = sure_paper(prog)
            self.assertEqual(repr(paper[:2]), repr(("unsure", row)))
            many += len(row) > 1
        self.assertGreater(many, 5)
        self.assertEqual(sure_paper(LATE)[:2], ("unsure", ((0, 0), (1, 1))))
        self.assertEqual(sure_paper(UNSURE), ("unsure", ((),), ("unsure", ())))

    def test_just_one_of_both(self):
        for prog, (states, table) in zip(PROGRAMS, REACHED):
            sure = all(None not in row for row in table)
            papers = [tuple(shown_sure(prog, state, given) for given in plainly.all_bits(len(prog[0]))) for state in states]
            self.assertIs(is_sure_paper(prog, ("sure", states, papers)), sure)
            self.assertIs(is_sure_paper(prog, ("sure", tuple(states), tuple(papers))), sure)
            for row in plainprograms.rows_up_to(len(prog[0]), 2):
                state = prog[2]
                for given in row[:-1]:
                    told = react(prog, state, given)
                    if told is None:
                        break
                    state = told[2]
                else:
                    if row:
                        told = react(prog, state, row[-1])
                        for word in ("sure", "unsure"):
                            paper = (word, shown_sure(prog, state, row[-1])[1])
                            good = told is None and word == "unsure"
                            self.assertIs(is_sure_paper(prog, ("unsure", row, paper)), good)
                            self.assertIs(is_sure_paper(prog, ("unsure", list(row), paper)), good)

    def test_one_thing_otherwise(self):
        for prog in (HAND, LATE, UNSURE, ((), ("o",), ("loop", ("local", "s", PAUSE))), (("a",), (), NOTHING)):
            paper = sure_paper(prog)
            values = every_kind() + list(changed(paper)) + [paper, list(paper), (paper[0], tuple(paper[1])) + paper[2:]]
            told = self.judges(lambda x: is_sure_paper(prog, x), lambda x: plainprograms.is_sure_paper(prog, x), values)
            self.assertGreater(told[True], 0)
            self.assertGreater(told[False], 200)

    def test_other_states(self):
        prog = (("a",), ("o",), in_row(PAUSE, ("if", "a", PAUSE, NOTHING), ("emit", "o"), ("loop", PAUSE)))
        word, states, papers = sure_paper(prog)

        def judged(states, papers):
            told = is_sure_paper(prog, (word, states, papers))
            self.assertIs(told, plainprograms.is_sure_paper(prog, (word, states, papers)))
            return told

        rng = random.Random(2)
        for _ in range(10):
            order = [0] + rng.sample(range(1, len(states)), len(states) - 1)
            self.assertTrue(judged([states[at] for at in order], [papers[at] for at in order]))
            self.assertEqual(judged([states[at] for at in order], papers), order == sorted(order))
        self.assertFalse(judged(states[1:] + states[:1], papers[1:] + papers[:1]))
        for gone in range(len(states)):
            self.assertFalse(judged(states[:gone] + states[gone + 1:], papers[:gone] + papers[gone + 1:]))
            self.assertFalse(judged(states + states[gone:gone + 1], papers + papers[gone:gone + 1]))
        for more in (None, PAUSE, ("hold", "a", PAUSE), HAND_BODY, ("exit", 0), ("emit", "x"), ["pause"], chain(80)):
            paper = tuple(("sure", ()) for _ in range(2))
            if is_state(prog, more):
                paper = tuple(shown_sure(prog, more, given) for given in ((0,), (1,)))
            judged(states + [more], papers + [paper])
            judged(states + [more, NOTHING, None], papers + [paper] + [
                tuple(shown_sure(prog, NOTHING, given) for given in ((0,), (1,)))] * 2)
        ended = tuple(shown_sure(prog, None, given) for given in ((0,), (1,)))
        self.assertTrue(judged(states + [None], papers + [ended]))
        self.assertTrue(judged([states[0], None] + states[1:], [papers[0], ended] + papers[1:]))
        other = (("a",), ("o",), in_row(PAUSE, ("if", "a", NOTHING, PAUSE), ("emit", "o"), ("loop", PAUSE)))
        self.assertFalse(is_sure_paper(other, (word, states, papers)))
        self.assertFalse(judged([], []))
        self.assertFalse(judged(states[:1], papers[:1]))
        self.assertTrue(is_sure_paper(AGAIN, ("sure", [AGAIN[2]], [(("sure", (("o", 0),)),)])))

    def test_states_that_are_too_great_to_go_on(self):
        # Of 80 levels, of 2000 statements: they are states, what comes of them is none.
        for big in (("loop", chain(79)), ("loop", broad(1999))):
            prog = ((), (), ("loop", PAUSE))
            self.assertTrue(is_state(prog, big))
            word, states, papers = sure_paper(prog)
            self.assertFalse(is_sure_paper(prog, (word, states + [big], papers + [(shown_sure(prog, big, ()),)])))
        fits = ("loop", chain(78))
        states, papers = states + [fits], papers + [(shown_sure(prog, fits, ()),)]
        while len(states) < 10:
            more = react(prog, states[-1], ())[2]
            if plainprograms.place(states, more) >= 0:
                break
            states, papers = states + [more], papers + [(shown_sure(prog, more, ()),)]
        self.assertTrue(is_sure_paper(prog, (word, states, papers)))
        self.assertFalse(is_sure_paper(prog, (word, states[:-1], papers[:-1])))
        self.assertFalse(is_sure_paper(TOO_GREAT, ("sure", [TOO_GREAT[2]], [(("sure", (("a", 0),)), ("sure", ()))])))
        self.assertFalse(is_sure_paper(TOO_GREAT, ("unsure", [(0,), (0,)], ("unsure", ()))))

    def test_two_hundred_and_one(self):
        prog = ((), (), clock(17, 13, 14))
        word, states, papers = sure_paper(prog)
        self.assertEqual(len(states), 200)
        self.assertTrue(is_sure_paper(prog, (word, states, papers)))
        self.assertTrue(is_shown_sure(prog, None, (), ("sure", ())))
        self.assertFalse(is_sure_paper(prog, (word, states + [None], papers + [(("sure", ()),)])))

    def test_rows_of_four_hundred(self):
        prog = (("a",), ("o",), ("loop", in_row(PAUSE, ("if", "a", UNSURE[2], NOTHING))))
        self.assertTrue(is_sure_paper(prog, ("unsure", [(0,)] * 399 + [(1,)], ("unsure", ()))))
        self.assertFalse(is_sure_paper(prog, ("unsure", [(0,)] * 400 + [(1,)], ("unsure", ()))))
        self.assertFalse(is_sure_paper(prog, ("unsure", [], ("unsure", ()))))
        self.assertFalse(is_sure_paper(prog, ("unsure", [(0,), (1,), (1,)], ("unsure", ()))))
        self.assertFalse(is_sure_paper(prog, ("unsure", [(0,), (True,)], ("unsure", ()))))
        self.assertFalse(is_sure_paper(prog, ("unsure", [(0,), [1]], ("unsure", ()))))

    def test_wrong_ones(self):
        self.wrong_values(sure_paper, (HAND,), 0, BadProgram, plainwords.program, least=100)
        self.wrong_values(is_sure_paper, (HAND, "x"), 0, BadProgram, plainwords.program, least=100)
