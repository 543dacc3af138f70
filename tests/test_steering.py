import itertools
import random

from restsure.errors import BadOwn, BadProgram, BadSignal, BadWord, Lost, NotSure, TooMany, Wide
from restsure.machines import is_machine, run_machine
from restsure.steering import is_steering, steered, steering
from tests import drawnprograms, plainly, plainprograms, plainwords
from tests.contract import Contract
from tests.drawnprograms import beside, clock, in_row
from tests.drawnwords import HAND, NOTHING, PAUSE, UNSURE
from tests.test_reached import LATE, TOO_GREAT
from tests.values import changed, every_kind

NAMES = ("program", "own", "word", "signal")
WORDS = ("seeing", "blind")
DRAWN = drawnprograms.small_inputs(90) + drawnprograms.whirls(24) + [HAND]
REACHED = [(prog, plainprograms.reached(prog)) for prog in DRAWN]


def owns(inputs):
    for many in range(len(inputs) + 1):
        yield from itertools.combinations(inputs, many)


GAMES = [(prog, reach, own, word, name, place) for prog, reach in REACHED if all(None not in row for row in reach[1])
         for own in owns(prog[0]) for word in WORDS for place, name in enumerate(prog[0] + prog[1])]
# o is there in an instant behind one in which a was not what b is now: a guess of what comes.
GUESS = (("a", "b"), ("o",), ("loop", ("if", "a", ("seq", PAUSE, ("if", "b", NOTHING, ("emit", "o"))),
                                       ("seq", PAUSE, ("if", "b", ("emit", "o"), NOTHING)))))
# o is there at once, unless a is what b is.
MATCH = (("a", "b"), ("o",), ("loop", ("seq", ("if", "a", ("if", "b", NOTHING, ("emit", "o")), ("if", "b", ("emit", "o"), NOTHING)), PAUSE)))
# It ends if a is not there in the first instant; otherwise o comes of b.
LEAVES = (("a", "b"), ("o",), ("if", "a", ("loop", ("seq", ("if", "b", ("emit", "o"), NOTHING), PAUSE)), NOTHING))
# Three instants until o, whatever is given; four if b is there first.
THREE = (("a", "b"), ("o",), in_row(("if", "b", PAUSE, NOTHING), PAUSE, PAUSE, ("emit", "o"), ("loop", PAUSE)))


class Steering(Contract):
    def test_drawn(self):
        words = {}
        for prog, reach, own, word, name, place in GAMES:
            told = self.kept(steering, NAMES, (prog, own, word, name))
            self.assertEqual(repr(told), repr(plainprograms.steering(prog, reach, own, word, place)))
            self.assertTrue(plainprograms.is_steering(prog, reach, own, word, place, told))
            self.assertIs(is_steering(prog, own, word, name, told), True)
            self.assertEqual(list(told[1]), sorted(told[1]))
            words[told[0], word] = words.get((told[0], word), 0) + 1
        self.assertGreater(min(words.get((told, word), 0) for told in ("kept", "lost") for word in WORDS), 100)

    def test_what_is_seen_helps(self):
        self.assertEqual(steering(MATCH, ("a",), "blind", "o"), ("lost", {0: (1, ((1,), (0,))), 1: (1, ((1,), (0,)))}))
        self.assertEqual(steering(MATCH, ("a",), "seeing", "o"), ("kept", {0: ((0,), (1,)), 1: ((0,), (1,))}))
        self.assertEqual(steering(MATCH, ("b",), "seeing", "o")[0], "kept")
        self.assertEqual(steering(MATCH, ("a", "b"), "blind", "o"), ("kept", {0: (0, 0), 1: (0, 0)}))
        self.assertEqual(steering(MATCH, (), "blind", "o"), ("lost", {0: (1, ((0, 1),)), 1: (1, ((0, 1),))}))
        self.assertEqual(steering(MATCH, (), "seeing", "o"), ("lost", {0: (1, (0, 1)), 1: (1, (0, 1))}))
        # What comes later is seen by nobody.
        for word in WORDS:
            self.assertEqual(steering(GUESS, ("a",), word, "o")[0], "lost")
            self.assertEqual(steering(GUESS, ("b",), word, "o")[0], "kept")

    def test_signals_that_are_inputs(self):
        for word in WORDS:
            self.assertEqual(steering(MATCH, ("a",), word, "a")[0], "kept")
            self.assertEqual(steering(MATCH, ("a",), word, "b")[0], "lost")
            self.assertEqual(steering(MATCH, ("a", "b"), word, "b")[0], "kept")
        self.assertEqual(steering((("a",), (), ("emit", "a")), ("a",), "blind", "a"), ("lost", {0: (1, ((),) * 2)}))

    def test_where_it_has_ended(self):
        kept = steering(LEAVES, ("a",), "seeing", "o")
        self.assertEqual(kept, ("kept", {0: ((0,), (0,)), 1: ((0,), (0,))}))
        self.assertEqual(plainprograms.reached(LEAVES)[0][1], None)
        self.assertEqual(steering(LEAVES, (), "blind", "o")[0], "lost")
        # A foreign signal is forced in the ended one, too.
        told = steering(LEAVES, ("a",), "blind", "b")
        self.assertEqual((told[0], set(rank for rank, _ in told[1].values())), ("lost", {1}))

    def test_ranks(self):
        self.assertEqual({n: rank for n, (rank, _) in steering(THREE, ("a",), "blind", "o")[1].items()}, {0: 3, 1: 2, 2: 3, 3: 1})
        self.assertEqual({n: rank for n, (rank, _) in steering(THREE, ("a", "b"), "blind", "o")[1].items()}, {0: 4, 1: 2, 2: 3, 3: 1})
        states = plainprograms.reached(THREE)[0]
        self.assertEqual(len(states), 5)

    def test_great_ones(self):
        inputs, outputs = tuple("abcdefgh"), tuple("ijklmno")
        prog = (inputs, outputs, drawnprograms.toggles(inputs, outputs))
        for word, own in (("seeing", ("a", "c", "h")), ("blind", ("a", "b", "g"))):
            told = steering(prog, own, word, "i")
            self.assertEqual(told[0], "kept")
            self.assertTrue(is_steering(prog, own, word, "i", told))
            told = steering(prog, own, word, "k" if word == "blind" else "j")
            self.assertEqual(told[0], "lost")
            self.assertTrue(is_steering(prog, own, word, "k" if word == "blind" else "j", told))
        late = (("a",), ("o",), clock(17, 13, 14))
        self.assertEqual(steering(late, ("a",), "blind", "o"), ("kept", {number: (0,) for number in range(200)}))
        self.assertEqual(steering(late, (), "seeing", "o"), ("kept", {number: ((), ()) for number in range(200)}))

    def test_wrong_ones(self):
        own_inputs = (("a", "b", "c"), ("o",), NOTHING)

        def is_own(thing):
            return type(thing) is tuple and thing in list(owns(("a", "b", "c")))

        for function, more in ((steering, ()), (steered, ()), (is_steering, ("x",))):
            args = (own_inputs, ("a", "c"), "blind", "o") + more
            self.wrong_values(function, args, 0, BadProgram, lambda x: plainwords.program(x), least=100)
            self.wrong_values(function, args, 1, BadOwn, is_own, least=60, more=[
                ("c", "a"), ("a", "a"), ["a"], ("o",), ("x",), "a", ("a", "b", "c", "c"), {"a": 1}, (None,), (0,), (("a",),), ("b", "a")])
            self.wrong_values(function, args, 2, BadWord, lambda x: x == "blind" or x == "seeing", least=60, more=["Blind", "deaf", ("blind",)])
            self.wrong_values(function, args, 3, BadSignal, lambda x: x in ("a", "b", "c", "o"), least=60, more=["s", ("o",)])
            self.first_error(function, args, (BadProgram, BadOwn, BadWord, BadSignal))
            for rest in ((("a",), "blind", "o"), (None, "blind", "o"), ((), "x", "o"), ((), "blind", "x")):
                for prog, most in (((("a",), ("o",), ("if", "a", UNSURE[2], clock(18, 13, 14))), 200), (TOO_GREAT, 2000)):
                    with self.assertRaises(TooMany) as caught:
                        function(prog, *rest, *more)
                    self.assertEqual(caught.exception.most, most)
                for prog, row in ((UNSURE, ((),)), (LATE, ((0, 0), (1, 1)))):
                    with self.assertRaises(NotSure) as caught:
                        function(prog, *rest, *more)
                    self.assertEqual(repr(caught.exception.row), repr(row))


class Judging(Contract):
    def test_just_one_of_both(self):
        rng = random.Random(4)
        seen = {True: 0, False: 0}
        for prog, reach, own, word, name, place in GAMES[::3]:
            kept = steering(prog, own, word, name)[0] == "kept"
            mines, others = plainly.all_bits(len(own)), plainly.all_bits(len(prog[0]) - len(own))
            for _ in range(4):
                numbers = [0] + [number for number in range(1, len(reach[0])) if rng.random() < 0.9]
                if word == "blind":
                    choices = {n: rng.choice(mines) for n in numbers}
                    answers = {n: (rng.randint(1, 4), tuple(rng.choice(others) for _ in mines)) for n in numbers}
                else:
                    choices = {n: tuple(rng.choice(mines) for _ in others) for n in numbers}
                    answers = {n: (rng.randint(1, 4), rng.choice(others)) for n in numbers}
                for thing in (("kept", choices), ("lost", answers)):
                    told = is_steering(prog, own, word, name, thing)
                    self.assertIs(told, plainprograms.is_steering(prog, reach, own, word, place, thing))
                    self.assertFalse(told and kept != (thing[0] == "kept"))
                    seen[told] += 1
        self.assertGreater(min(seen.values()), 100)

    def test_ranks_that_are_greater(self):
        many = 0
        for prog, _, own, word, name, _ in GAMES:
            told, found = steering(prog, own, word, name)
            if told == "lost":
                more = {n: (3 * rank + 1, answers) for n, (rank, answers) in reversed(found.items())}
                self.assertTrue(is_steering(prog, own, word, name, ("lost", more)))
                less = {n: (rank - 1, answers) for n, (rank, answers) in found.items()}
                self.assertFalse(is_steering(prog, own, word, name, ("lost", less)))
                same = {n: (2, answers) for n, (_, answers) in found.items()}
                self.assertEqual(is_steering(prog, own, word, name, ("lost", same)), self.at_once(prog, own, word, name, same))
                many += len(found) > 1
            elif len(found) > 1:
                self.assertTrue(is_steering(prog, own, word, name, (told, dict(reversed(found.items())))))
        self.assertGreater(many, 100)

    def at_once(self, prog, own, word, name, found):
        reach = plainprograms.reached(prog)
        return plainprograms.is_steering(prog, reach, own, word, (prog[0] + prog[1]).index(name), ("lost", found))

    def test_one_thing_otherwise(self):
        for prog, own, name in ((MATCH, ("a",), "o"), (LEAVES, ("a",), "o"), (HAND, (), "o"), (THREE, ("b",), "o"), (MATCH, ("a", "b"), "b")):
            reach, place = plainprograms.reached(prog), (prog[0] + prog[1]).index(name)
            for word in WORDS:
                told = steering(prog, own, word, name)
                values = every_kind() + list(changed(told)) + [told, list(told), ("kept", {}), ("lost", {}), ("kept", {0: ()}), ("kept", {0: ((),)})]
                verdicts = self.judges(lambda x: is_steering(prog, own, word, name, x),
                                       lambda x: plainprograms.is_steering(prog, reach, own, word, place, x), values)
                self.assertGreater(verdicts[True], 0)

    def test_keys_and_bits(self):
        good = {0: ((0,), (1,)), 1: ((0,), (1,))}
        for thing in (good, {1: good[1], 0: good[0]}):
            self.assertTrue(is_steering(MATCH, ("a",), "seeing", "o", ("kept", thing)))
        for thing in ({False: good[0], 1: good[1]}, {0: good[0], True: good[1]}, {1: good[1]}, {0: good[0]}, {**good, 2: good[0]},
                      {0: ((0,), (True,)), 1: good[1]}, {0: [(0,), (1,)], 1: good[1]}, {0: ((0,), [1]), 1: good[1]}, {0: ((0,),), 1: good[1]},
                      {0: ((0,), (1,), (1,)), 1: good[1]}, {0: ((0, 0), (1,)), 1: good[1]}, {0: (0,), 1: (0,)}, {"0": good[0], 0: good[0], 1: good[1]},
                      list(good.items()), None):
            self.assertFalse(is_steering(MATCH, ("a",), "seeing", "o", ("kept", thing)))
        good = {0: (1, ((1,), (0,))), 1: (1, ((1,), (0,)))}
        self.assertTrue(is_steering(MATCH, ("a",), "blind", "o", ("lost", good)))
        self.assertTrue(is_steering(MATCH, ("a",), "blind", "o", ("lost", {0: good[0]})))
        for thing in ({0: (True, good[0][1])}, {0: (0, good[0][1])}, {0: [1, good[0][1]]}, {0: (1, good[0][1], 0)}, {0: (None, good[0][1])},
                      {0: (1, ((1,),))}, {0: (1, (1,))}, {0: (1, ((1,), (False,)))}, {False: good[0]}, {1: good[0]}, {0: (1, [(1,), (0,)])}):
            self.assertFalse(is_steering(MATCH, ("a",), "blind", "o", ("lost", thing)), thing)


class Steered(Contract):
    def test_drawn(self):
        rng = random.Random(3)
        seen = {"kept": 0, "lost": 0}
        for prog, reach, own, word, name, place in GAMES:
            told, choices = plainprograms.steering(prog, reach, own, word, place)
            seen[told] += 1
            if told == "lost":
                self.refuses(Lost, steered, (prog, own, word, name))
                continue
            what = self.kept(steered, NAMES, (prog, own, word, name))
            self.assertTrue(is_machine(what))
            self.assertTrue(plainprograms.machine(what))
            width = len(prog[0]) - len(own)
            self.assertEqual(what[:2], (width, len(prog[0]) + len(prog[1])))
            others = plainly.all_bits(width)
            for _ in range(3):
                row = [rng.choice(others) for _ in range(6)]
                state = 0
                for theirs, (totals, code) in zip(row, run_machine(what, row)):
                    mine = choices[state] if word == "blind" else choices[state][others.index(theirs)]
                    given = plainprograms.woven(prog, own, mine, theirs)
                    now = reach[1][state][plainly.all_bits(len(prog[0])).index(given)]
                    self.assertEqual((totals, code), (theirs + now[0], 1))
                    self.assertEqual(totals[width + place], 0)
                    state = now[2]
            self.numbered(what)
        self.assertGreater(min(seen.values()), 100)

    def numbered(self, what):
        """Its states are numbered as they are found, and all of them are."""
        found = [0]
        for at in range(len(what[2])):
            self.assertLess(at, len(found))
            for _, following in what[2][at]:
                self.assertIsNotNone(following)
                if following not in found:
                    self.assertEqual(following, len(found))
                    found.append(following)
        self.assertEqual(len(found), len(what[2]))

    def test_by_hand(self):
        self.assertEqual(steered(MATCH, ("a",), "seeing", "o"),
                         (1, 3, ((((0, 0, 0, 0), 1), ((1, 1, 1, 0), 1)), (((0, 0, 0, 0), 1), ((1, 1, 1, 0), 1)))))
        self.assertEqual(steered(MATCH, ("a", "b"), "blind", "o"), (0, 3, ((((0, 0, 0), 1),), (((0, 0, 0), 1),))))
        self.refuses(Lost, steered, (MATCH, ("a",), "blind", "o"))
        # Where the program has ended the machine goes on.
        self.assertEqual(steered(LEAVES, ("a",), "blind", "o"),
                         (1, 3, ((((0, 0, 0, 0), 1), ((1, 0, 1, 0), 1)), (((0, 0, 0, 0), 1), ((1, 0, 1, 0), 1)))))
        # It may come to its first state again.
        again = (("a",), ("o",), ("seq", NOTHING, ("loop", ("seq", ("if", "a", ("emit", "o"), NOTHING), PAUSE))))
        self.assertEqual(steered(again, ("a",), "blind", "o"), (0, 2, ((((0, 0), 0),),)))
        again = (("a",), ("o",), ("seq", NOTHING, ("loop", PAUSE)))
        self.assertEqual(steered(again, (), "seeing", "o"), (1, 2, ((((0, 0, 0), 0), ((1, 1, 0), 0)),)))
        # Of two states that could be reached only those that are chosen are there.
        self.assertEqual(len(steered(LEAVES, ("a",), "blind", "o")[2]), 2)
        self.assertEqual(len(plainprograms.reached(LEAVES)[0]), 3)

    def test_wide(self):
        for inputs, outputs in ((3, 5), (4, 4), (8, 0), (1, 7), (2, 6)):
            names = tuple("abcdefghijkl")
            prog = (names[:inputs], names[inputs:inputs + outputs], PAUSE)
            self.assertEqual(steered(prog, ("a",), "blind", "a")[:2], (inputs - 1, 8))
            for more in (1, 3):
                wide = (names[:inputs], names[inputs:inputs + outputs + more], PAUSE)
                if len(wide[1]) > 8:
                    continue
                with self.assertRaises(Wide) as caught:
                    steered(wide, ("a",), "blind", "a")
                self.assertEqual(caught.exception.most, 8)
                # Lost is told ahead of it.
                if inputs > 1:
                    self.refuses(Lost, steered, (wide, ("a",), "blind", "b"))
                steering(wide, ("a",), "blind", "a")

    def test_two_hundred_states(self):
        what = steered((("a",), ("o",), clock(17, 13, 14)), (), "blind", "o")
        self.assertEqual((what[:2], len(what[2])), ((1, 2), 200))
        what = steered((("a",), ("o",), beside(("if", "a", PAUSE, NOTHING), clock(15, 13, 14))), ("a",), "seeing", "a")
        self.numbered(what)
