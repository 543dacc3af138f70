import random

from restsure.alike import alike, is_alike_paper
from restsure.errors import BadProgram, TooMany, Unlike
from restsure.machines import least, machine_of
from restsure.statements import is_program
from restsure.sureness import sure_paper
from tests import drawnprograms, plainly, plainprograms, plainwords
from tests.contract import Contract
from tests.drawnprograms import beside, clock, in_row
from tests.drawnwords import HAND, HAND_BODY, NO_WAY, NOTHING, PAUSE, UNSURE
from tests.test_reached import LATE, TOO_GREAT
from tests.values import changed, every_kind

NAMES = ("one", "other")
PROGRAMS = drawnprograms.small_inputs(120) + drawnprograms.whirls(30) + [HAND, LATE]


def with_other_emits(thing, rng):
    """The same with one other emit, now and then."""
    if thing[0] == "emit" and rng.random() < 0.4:
        return NOTHING
    if thing[0] == "pause" and rng.random() < 0.15:
        return ("seq", PAUSE, PAUSE)
    row = list(thing)
    for index, kid in plainwords.kids(thing):
        row[index] = with_other_emits(kid, rng)
    return tuple(row)


def others(prog, seed):
    """Programs of the same signals, alike to prog or not."""
    rng = random.Random(seed)
    body = prog[2]
    made = [body, ("seq", body, NOTHING), ("par", NOTHING, body), ("local", "zz", ("par", body, ("emit", "zz"))),
            ("trap", ("seq", plainwords.raised(body, 1), ("exit", 0))), with_other_emits(body, rng), with_other_emits(body, rng)]
    if body[0] == "loop":
        made.append(("seq", body[1], body))
    return [prog[:2] + (other,) for other in made if is_program(prog[:2] + (other,))]


PAIRS = [(prog, other) for seed, prog in enumerate(PROGRAMS) for other in others(prog, seed)]


class Alike(Contract):
    def test_drawn(self):
        words = {}
        for one, other in PAIRS:
            told = self.kept(alike, NAMES, (one, other))
            self.assertEqual(told[0], "alike" if plainprograms.alike(one, other) else "row")
            self.assertTrue(plainprograms.is_alike_paper(one, other, told))
            self.assertIs(self.kept(is_alike_paper, NAMES + ("thing",), (one, other, told)), True)
            sure = sure_paper(one)[0]
            words[told[0], sure] = words.get((told[0], sure), 0) + 1
            if told[0] == "alike":
                self.assertIsInstance(told[1], list)
                self.assertEqual(sure, sure_paper(other)[0])
            if sure == sure_paper(other)[0] == "sure":
                self.assertEqual(told[0] == "alike", least(machine_of(one)) == least(machine_of(other)))
        self.assertGreater(min(words.get((a, b), 0) for a in ("alike", "row") for b in ("sure", "unsure")), 15)

    def test_the_first_one_of_the_shortest_rows(self):
        lengths = {}
        for one, other in PAIRS:
            told = alike(one, other)
            if told[0] == "row":
                wanted = next((row for row in plainprograms.rows_up_to(len(one[0]), 3)
                               if plainprograms.tell(one, row) != plainprograms.tell(other, row)), None)
                self.assertEqual(repr(wanted), repr(told[1] if len(told[1]) <= 3 else None))
                lengths[len(told[1])] = lengths.get(len(told[1]), 0) + 1
        self.assertGreater(min(lengths.get(many, 0) for many in (1, 2)), 20)

    def test_just_one_of_both(self):
        for one, other in PAIRS[:300]:
            same = plainprograms.alike(one, other)
            states = [plainprograms.reached(prog)[0] for prog in (one, other)]
            pairs = [(x, y) for x in states[0] for y in states[1]]
            # The greatest lot of pairs that goes on, whatever it is.
            while True:
                left = [(x, y) for x, y in pairs if self.goes(one, other, x, y, pairs)]
                if len(left) == len(pairs):
                    break
                pairs = left
            self.assertIs(is_alike_paper(one, other, ("alike", pairs)), same)
            self.assertIs(is_alike_paper(one, other, ("alike", tuple(pairs))), same)
            for row in plainprograms.rows_up_to(len(one[0]), 2):
                unlike = plainprograms.tell(one, row) != plainprograms.tell(other, row)
                self.assertIs(is_alike_paper(one, other, ("row", row)), unlike)
                self.assertIs(is_alike_paper(one, other, ("row", list(row))), unlike)
                self.assertFalse(unlike and same)

    def goes(self, one, other, x, y, pairs):
        for given in plainly.all_bits(len(one[0])):
            a, b = plainwords.react(one, x, given), plainwords.react(other, y, given)
            if (a is None) != (b is None) or (a and (a[:2] != b[:2] or (a[2], b[2]) not in pairs)):
                return False
        return True

    def test_by_hand(self):
        self.assertEqual(alike(UNSURE, NO_WAY), ("alike", [(UNSURE[2], NO_WAY[2])]))
        silent = ((), ("o",), NOTHING)
        self.assertEqual(alike(UNSURE, silent), ("row", ((),)))
        self.assertEqual(alike(silent, UNSURE), ("row", ((),)))
        self.assertEqual(alike(silent, silent), ("alike", [(NOTHING, NOTHING), (None, None)]))
        # The code alone is not the same; it is told by the first instant.
        self.assertEqual(alike(silent, ((), ("o",), PAUSE)), ("row", ((),)))
        late = ((), ("o",), in_row(PAUSE, PAUSE, ("emit", "o")))
        self.assertEqual(alike(late, ((), ("o",), in_row(PAUSE, PAUSE, NOTHING))), ("row", ((), (), ())))
        # Ended, and going on for ever, are told by the code.
        self.assertEqual(alike(late, ((), ("o",), in_row(PAUSE, PAUSE, ("emit", "o"), PAUSE)))[0], "row")

    def test_unsure_instants_of_both(self):
        one = (("a",), ("o",), in_row(PAUSE, ("if", "a", UNSURE[2], PAUSE)))
        other = (("a",), ("o",), in_row(PAUSE, ("if", "a", NO_WAY[2], NOTHING), ("if", "a", NOTHING, PAUSE)))
        told = alike(one, other)
        self.assertEqual(told[0], "alike")
        self.assertTrue(is_alike_paper(one, other, told))
        # Behind it nothing is told: what would come is not asked.
        self.assertFalse(is_alike_paper(one, other, ("row", [(0,), (1,), (0,), (1,)])))
        self.assertEqual(alike(one, (("a",), ("o",), in_row(PAUSE, PAUSE)))[1], ((0,), (1,)))

    def test_two_hundred_states(self):
        one, other = ((), (), clock(17, 13, 14)), ((), (), clock(0, 9, 11, 2))
        told = alike(one, other)
        self.assertEqual((told[0], len(told[1])), ("alike", 17 + 18019))
        self.assertTrue(is_alike_paper(one, other, told))
        self.assertFalse(is_alike_paper(one, other, ("alike", told[1][:-1])))
        self.assertFalse(is_alike_paper(one, other, ("alike", told[1][1:])))
        many = ((), (), clock(18, 13, 14))
        for pair in ((one, many), (many, one), (many, many)):
            with self.assertRaises(TooMany) as caught:
                alike(*pair)
            self.assertEqual(caught.exception.most, 200)
        # Unlike is told ahead of it, and of rests that are too great.
        self.refuses(Unlike, alike, (many, HAND))
        self.refuses(Unlike, alike, (TOO_GREAT, HAND))
        great = (("a",), (), PAUSE)
        for pair in ((TOO_GREAT, great), (great, TOO_GREAT)):
            with self.assertRaises(TooMany) as caught:
                alike(*pair)
            self.assertEqual(caught.exception.most, 2000)
        # Papers of programs of more states may be judged all the same.
        self.assertFalse(is_alike_paper(many, one, ("row", [()] * 400)))
        self.assertFalse(is_alike_paper(TOO_GREAT, great, ("alike", [(TOO_GREAT[2], PAUSE)])))

    def test_many_pairs_and_eight_inputs(self):
        inputs = tuple("abcdefgh")

        def counters(names):
            def waits(name):
                return ("trap", ("loop", ("seq", PAUSE, ("if", name, ("exit", 0), NOTHING))))
            return (inputs, (), beside(*[("loop", in_row(*[waits(name)] * many)) for name, many in zip(names, (4, 5, 5))]))
        one, other = counters("abc"), counters("def")
        told = alike(one, other)
        self.assertEqual((told[0], len(told[1])), ("alike", 10001))
        self.assertTrue(is_alike_paper(one, other, told))


class Judging(Contract):
    def test_one_thing_otherwise(self):
        two = (HAND, HAND[:2] + (("seq", HAND_BODY, NOTHING),))
        parted = (HAND, HAND[:2] + (in_row(PAUSE, ("emit", "o")),))
        for one, other in (two, parted, (UNSURE, NO_WAY)):
            paper = alike(one, other)
            values = every_kind() + list(changed(paper)) + [paper, list(paper), (paper[0], tuple(paper[1])), (paper[0], list(paper[1]))]
            told = self.judges(lambda x: is_alike_paper(one, other, x), lambda x: plainprograms.is_alike_paper(one, other, x), values)
            self.assertGreater(told[True], 1)
            self.assertGreater(told[False], 200)

    def test_pairs_too_few_and_too_many(self):
        one, other = HAND, HAND[:2] + (("seq", HAND_BODY, NOTHING),)
        word, pairs = alike(one, other)

        def judged(pairs):
            told = is_alike_paper(one, other, (word, pairs))
            self.assertIs(told, plainprograms.is_alike_paper(one, other, (word, pairs)))
            return told

        for gone in range(len(pairs)):
            self.assertFalse(judged(pairs[:gone] + pairs[gone + 1:]))
            self.assertTrue(judged(pairs + pairs[gone:gone + 1]))
            self.assertTrue(judged(pairs[gone:] + pairs[:gone]))
        self.assertTrue(judged(pairs + [(PAUSE, PAUSE), (NOTHING, NOTHING), (None, None)]))
        self.assertTrue(judged(pairs + [(("hold", "a", NOTHING), ("hold", "a", NOTHING)), (NOTHING, NOTHING)]))
        self.assertFalse(judged(pairs + [(("hold", "o", PAUSE), ("hold", "a", PAUSE))]))
        self.assertFalse(judged(pairs + [(PAUSE, PAUSE)]) and (NOTHING, NOTHING) not in pairs)
        self.assertFalse(judged(pairs + [(("emit", "x"), ("emit", "x"))]))
        self.assertFalse(judged(pairs + [(("exit", 0), ("exit", 0))]))
        self.assertFalse(judged(pairs + [(None, PAUSE)]))
        self.assertFalse(judged([]))
        self.assertTrue(judged(pairs + [(None, NOTHING)]))

    def test_rows(self):
        one, other = (("a",), ("o",), in_row(PAUSE, ("emit", "o"))), (("a",), ("o",), PAUSE)
        for row, good in (([(0,), (0,)], True), (((1,), (1,), (1,)), True), ([(0,)], False), ([], False), ([(0,)] * 400, True),
                          ([(0,)] * 401, False), ([(0,), (True,)], False), ([(0,), [0]], False), ([(0,), (0, 0)], False), (None, False)):
            self.assertIs(is_alike_paper(one, other, ("row", row)), good)

    def test_wrong_ones(self):
        args = (HAND, HAND[:2] + (PAUSE,))
        for function, more in ((alike, ()), (is_alike_paper, ("x",))):
            for place in (0, 1):
                self.wrong_values(function, args + more, place, BadProgram, least=100,
                                  is_right=lambda x: plainwords.program(x))
            self.first_error(function, args + more, (BadProgram, BadProgram))
            for unlike in ((("b",), ("o",), PAUSE), (("a",), ("p",), PAUSE), ((), ("o",), PAUSE), (("a", "b"), ("o",), PAUSE),
                           (("a",), (), PAUSE), (("o",), ("a",), PAUSE), (("a",), ("o", "p"), PAUSE)):
                self.refuses(Unlike, function, (args[0], unlike) + more)
                self.refuses(Unlike, function, (unlike, args[0]) + more)
            self.refuses(Unlike, function, ((("a", "b"), (), PAUSE), (("b", "a"), (), PAUSE)) + more)
