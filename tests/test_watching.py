import random

from restsure.errors import BadProgram, BadSignal, NotSure, TooMany
from restsure.watching import comes, is_coming, never
from tests import drawnprograms, plainly, plainprograms, plainwords
from tests.contract import Contract
from tests.drawnprograms import clock, in_row, long_row
from tests.drawnwords import HAND, NOTHING, PAUSE, UNSURE
from tests.test_reached import LATE, TOO_GREAT
from tests.values import changed, every_kind

NAMES = ("program", "signal")
# It comes to its first state again.
AGAIN = (("a",), ("o",), ("seq", NOTHING, ("loop", PAUSE)))
DRAWN = drawnprograms.small_inputs(150) + drawnprograms.whirls(40) + [HAND, AGAIN]
ALL = [(prog, plainprograms.reached(prog)) for prog in DRAWN]
SURE = [(prog, reach, name, place) for prog, reach in ALL if all(None not in row for row in reach[1])
        for place, name in enumerate(prog[0] + prog[1])]
# o comes in the instant behind the first a, or in the third one; then the program goes on for ever.
COMING = (("a",), ("o",), in_row(("if", "a", NOTHING, ("seq", PAUSE, NOTHING)), PAUSE, ("emit", "o"), ("loop", PAUSE)))
# o comes if a is not there for ever; it may come, and then the program ends.
WITHOUT = (("a",), ("o",), ("trap", ("loop", ("seq", PAUSE, ("if", "a", NOTHING, ("seq", ("emit", "o"), ("exit", 0)))))))


class Never(Contract):
    def test_drawn(self):
        words = {}
        for prog, reach, name, place in SURE:
            told = self.kept(never, NAMES, (prog, name))
            first = plainprograms.never(reach, place)
            words[told[0]] = words.get(told[0], 0) + 1
            if told[0] == "never":
                self.assertEqual(repr(told), repr(("never", first)))
                continue
            self.assertIsInstance(told[1], tuple)
            self.assertEqual([bits[place] for bits, _ in plainprograms.tell(prog, told[1])], [0] * (len(told[1]) - 1) + [1])
            wanted = next((row for row in plainprograms.rows_up_to(len(prog[0]), 4)
                           if row and plainprograms.tell(prog, row)[-1][0][place]), None)
            self.assertEqual(repr(told[1] if len(told[1]) <= 4 else None), repr(wanted))
        self.assertGreater(min(words.values()), 30)

    def test_by_hand(self):
        self.assertEqual(never(HAND, "o"), ("row", ((1,),)))
        self.assertEqual(never(HAND, "a"), ("row", ((1,),)))
        self.assertEqual(never((("a", "b"), (), PAUSE), "b"), ("row", ((0, 1),)))
        self.assertEqual(never((("a",), ("o", "p"), in_row(PAUSE, PAUSE, ("emit", "o"))), "p"), ("never", (0, 1, 2, 3)))
        self.assertEqual(never((("a",), ("o", "p"), in_row(PAUSE, PAUSE, ("emit", "o"))), "o"), ("row", ((0,), (0,), (0,))))
        self.assertEqual(never(((), ("o",), NOTHING), "o"), ("never", (0, 1)))
        self.assertEqual(never(((), ("o",), ("loop", PAUSE)), "o"), ("never", (0, 1)))


class Comes(Contract):
    def test_drawn(self):
        words = {}
        for prog, reach, name, place in SURE:
            told = self.kept(comes, NAMES, (prog, name))
            free = 0 in plainprograms.can_go_without(reach, place)
            self.assertEqual(told[0], "without" if free else "comes")
            self.assertTrue(plainprograms.is_coming(prog, reach, place, told))
            self.assertIs(self.kept(is_coming, NAMES + ("thing",), (prog, name, told)), True)
            key = (told[0], place < len(prog[0]))
            words[key] = words.get(key, 0) + 1
            if not free:
                wanted = {number: plainprograms.most_instants(reach, place, number) - 1
                          for number in sorted(plainprograms.quiet_states(reach, place))}
                self.assertEqual(repr(told), repr(("comes", wanted)))
            else:
                self.assertEqual([type(item) for item in told], [str, tuple, tuple])
                self.assertGreater(len(told[2]), 0)
        self.assertGreater(min(words[key] for key in (("comes", False), ("without", False), ("without", True))), 20)

    def test_ranks_that_are_the_least_of_the_fewest_states(self):
        lengths = {}
        for prog, reach, name, place in SURE:
            told = comes(prog, name)
            if told[0] == "comes":
                for gone in told[1]:
                    fewer = {number: rank + 5 for number, rank in told[1].items() if number != gone}
                    self.assertFalse(is_coming(prog, name, ("comes", fewer)))
                    if told[1][gone] > 0:
                        self.assertFalse(is_coming(prog, name, ("comes", {**told[1], gone: told[1][gone] - 1})))
                lengths[told[1][0]] = lengths.get(told[1][0], 0) + 1
        self.assertGreater(len(lengths), 2)

    def test_by_hand(self):
        self.assertEqual(comes(COMING, "o"), ("comes", {0: 2, 1: 1, 2: 0}))
        self.assertEqual(comes(((), ("o",), ("emit", "o")), "o"), ("comes", {0: 0}))
        self.assertEqual(comes(((), ("o",), NOTHING), "o")[0], "without")
        told = comes(WITHOUT, "o")
        self.assertEqual(told[0], "without")
        self.assertTrue(is_coming(WITHOUT, "o", ("without", ((0,),), ((1,),))))
        self.assertTrue(is_coming(WITHOUT, "o", ("without", [(0,), (1,)], [(1,), (1,)])))
        self.assertFalse(is_coming(WITHOUT, "o", ("without", ((0,),), ((0,),))))
        self.assertFalse(is_coming(WITHOUT, "o", ("without", (), ((1,),))))
        self.assertEqual(comes(AGAIN, "o"), ("without", (), ((0,),)))
        self.assertEqual(never(AGAIN, "o"), ("never", (0,)))
        # An input may be kept away by not giving it, unless it is emitted.
        self.assertEqual(comes((("a",), (), PAUSE), "a")[0], "without")
        self.assertEqual(comes((("a",), (), ("emit", "a")), "a"), ("comes", {0: 0}))
        # Where it has ended nothing comes any more; a state of the lowest rank, and one of the highest.
        self.assertEqual(comes((("a",), ("o",), ("if", "a", ("emit", "o"), NOTHING)), "o")[0], "without")
        self.assertEqual(comes((("a",), ("o",), ("if", "a", ("emit", "o"), ("seq", PAUSE, ("emit", "o")))), "o"), ("comes", {0: 1, 1: 0}))

    def test_great_ones(self):
        prog = ((), ("o",), ("seq", clock(0, 13, 14)[1], ("emit", "o")))
        self.assertEqual(comes(prog, "o")[0], "without")
        row = long_row(*[PAUSE] * 90, ("emit", "o"), ("loop", PAUSE))
        ranks = comes(((), ("o",), row), "o")
        self.assertEqual(ranks, ("comes", {number: 90 - number for number in range(91)}))
        inputs, outputs = tuple("abcdefgh"), tuple("ijklmno")
        told = comes((inputs, outputs, drawnprograms.toggles(inputs, outputs)), "i")
        self.assertEqual(told[0], "without")
        late = ((), ("o",), clock(17, 13, 14))
        told = comes(late, "o")
        self.assertEqual((told[0], len(told[1]) + len(told[2])), ("without", 18 + 182))
        self.assertTrue(is_coming(late, "o", told))
        self.assertEqual(never(late, "o"), ("never", tuple(range(200))))


class Judging(Contract):
    def test_just_one_of_both(self):
        rng = random.Random(1)
        for prog, reach, name, place in SURE:
            free = 0 in plainprograms.can_go_without(reach, place)
            for _ in range(6):
                ranks = {number: rng.randint(0, 4) for number in range(len(reach[0])) if rng.random() < 0.8}
                for thing in (("comes", ranks), ("comes", {0: 0, **ranks})):
                    told = is_coming(prog, name, thing)
                    self.assertIs(told, plainprograms.is_coming(prog, reach, place, thing))
                    self.assertFalse(told and free)
                rows = [[rng.choice(plainly.all_bits(len(prog[0]))) for _ in range(rng.randint(0, 3))] for _ in range(2)]
                told = is_coming(prog, name, ("without", rows[0], rows[1]))
                self.assertIs(told, plainprograms.is_coming(prog, reach, place, ("without", rows[0], rows[1])))
                self.assertFalse(told and not free)
            if not free:
                # Ranks may be greater than need be, and states more.
                ranks = {number: 10 + 2 * rank for number, rank in comes(prog, name)[1].items()}
                self.assertTrue(is_coming(prog, name, ("comes", dict(reversed(ranks.items())))))
                self.assertFalse(is_coming(prog, name, ("comes", {n: -r for n, r in ranks.items()})))

    def test_one_thing_otherwise(self):
        cases = [(COMING, "o"), (WITHOUT, "o"), (WITHOUT, "a"), (((), ("o",), ("emit", "o")), "o"), (HAND, "o")]
        for prog, name in cases:
            reach, place = plainprograms.reached(prog), (prog[0] + prog[1]).index(name)
            told = comes(prog, name)
            values = every_kind() + list(changed(told)) + [told, list(told), (told[0],) + tuple(
                list(item) if isinstance(item, tuple) else item for item in told[1:]), ("comes", {}), ("without", (), ())]
            verdicts = self.judges(lambda x: is_coming(prog, name, x), lambda x: plainprograms.is_coming(prog, reach, place, x), values)
            self.assertGreater(verdicts[True], 0)

    def test_keys_and_ranks(self):
        for thing, good in (({0: 2, 1: 1, 2: 0}, True), ({2: 0, 1: 1, 0: 2}, True), ({False: 2, 1: 1, 2: 0}, False),
                            ({0: 2, True: 1, 2: 0}, False), ({0: 2, 1: True, 2: 0}, False), ({0: 2, 1: 1, 2: False}, False),
                            ({1: 1, 2: 0}, False), ({0: 2, 1: 1}, False), ({0: 2, 1: 1, 2: 0, 3: 0}, False), ({0: 2, 1: 1, 2: 0, 9: 0}, False),
                            ({0: 2, 1: 1, 2: 0, "a": 0}, False), ({0: 2, 1: 1, 2: None}, False), ({0: 2, 1: 1, 2: -1}, False),
                            ({0: 1, 1: 1, 2: 0}, False), ({0: 9, 1: 8, 2: 7}, True), ([(0, 2), (1, 1), (2, 0)], False), (None, False)):
            self.assertIs(is_coming(COMING, "o", ("comes", thing)), good, thing)

    def test_rows_of_four_hundred(self):
        for row, loop, good in (([(0,)] + [(1,)] * 399, [(1,)] * 400, True), ([(0,)] + [(1,)] * 400, [(1,)], False),
                                ([(0,)], [(1,)] * 401, False), ([(0,)], [], False), ([(0,)], [(True,)], False), ([(False,)], [(1,)], False),
                                ([(0,)], [[1]], False), ([(0,)], [(1, 1)], False), (None, [(1,)], False), ([(0,)], None, False)):
            self.assertIs(is_coming(WITHOUT, "o", ("without", row, loop)), good)

    def test_wrong_ones(self):
        for function, more in ((never, ()), (comes, ()), (is_coming, ("x",))):
            self.wrong_values(function, (HAND, "o") + more, 0, BadProgram, lambda x: plainwords.program(x), least=100)
            self.wrong_values(function, (HAND, "o") + more, 1, BadSignal, lambda x: x == "o" or x == "a", least=60,
                              more=["s", "x", ("o",), ["o"], {"o": 1}])
            self.first_error(function, (HAND, "o") + more, (BadProgram, BadSignal))
            # In the sequence that is told: too many states, then not sure, then the signal.
            for signal in ("o", "x", None):
                for prog, most in (((("a",), ("o",), ("if", "a", UNSURE[2], clock(18, 13, 14))), 200), (TOO_GREAT, 2000)):
                    with self.assertRaises(TooMany) as caught:
                        function(prog, signal, *more)
                    self.assertEqual(caught.exception.most, most)
                for prog, row in ((UNSURE, ((),)), (LATE, ((0, 0), (1, 1)))):
                    with self.assertRaises(NotSure) as caught:
                        function(prog, signal, *more)
                    self.assertEqual(repr(caught.exception.row), repr(row))
