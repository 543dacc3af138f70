import itertools
import random

from restsure.errors import BadReadings, BadRest
from restsure.knowing import can, must, run_parts
from tests import drawnwords, plainwords
from tests.contract import Contract
from tests.drawnwords import HAND_BODY, NOTHING, PAUSE, TWO_LOCALS, broad, chain
from tests.values import changed, every_kind

DRAWN = drawnwords.statements(300)
NAMES = ("rest", "readings")


def drawn_readings(rest, rng, kinds=(0, 1, None)):
    return {key: rng.choice(kinds) for key in plainwords.keys_of(rest)}


def right_readings(rest, thing):
    if type(thing) is not dict or [type(x) for x in thing.values() if x is not None and type(x) is not int]:
        return False
    keys = sorted(map(repr, plainwords.keys_of(rest)))
    return sorted(map(repr, thing)) == keys and all(x is None or x in (0, 1) for x in thing.values())


class Knowing(Contract):
    def test_drawn(self):
        rng = random.Random(37)
        for rest in DRAWN:
            for _ in range(3):
                readings = drawn_readings(rest, rng)
                keys, code = plainwords.must(rest, readings)
                self.assertEqual(repr(self.kept(must, NAMES, (rest, readings))),
                                 repr((tuple(plainwords.ordered(keys)), code)))
                keys, codes = plainwords.can(rest, readings)
                self.assertEqual(repr(self.kept(can, NAMES, (rest, readings))),
                                 repr((tuple(plainwords.ordered(keys)), tuple(sorted(codes)))))
                self.assertEqual(self.kept(run_parts, NAMES, (rest, readings)),
                                 sorted(plainwords.runs(rest, readings)))

    def test_the_sequence_of_the_keys_means_nothing(self):
        rng = random.Random(41)
        for rest in DRAWN[:80]:
            readings = drawn_readings(rest, rng)
            keys = list(readings)
            rng.shuffle(keys)
            other = {key: readings[key] for key in keys}
            for function in (must, can, run_parts):
                self.assertEqual(repr(function(rest, readings)), repr(function(rest, other)))

    def test_facts(self):
        # What must be can be; with more known as much must be, no more can be, as many are run.
        rng = random.Random(43)
        more_known = 0
        for rest in DRAWN:
            readings = drawn_readings(rest, rng, (0, 1, None, None))
            keys, code = must(rest, readings)
            can_keys, can_codes = can(rest, readings)
            self.assertLessEqual(set(keys), set(can_keys))
            self.assertTrue(code is None or code in can_codes)
            self.assertTrue(can_codes)
            going = run_parts(rest, readings)
            for key in [key for key, reading in readings.items() if reading is None]:
                for bit in (0, 1):
                    more = {**readings, key: bit}
                    self.assertLessEqual(set(keys), set(must(rest, more)[0]))
                    self.assertIn(code, (None, must(rest, more)[1]))
                    self.assertLessEqual(set(can(rest, more)[0]), set(can_keys))
                    self.assertLessEqual(set(can(rest, more)[1]), set(can_codes))
                    self.assertLessEqual(set(going), set(run_parts(rest, more)))
                    more_known += 1
            self.assertEqual(going[0], ())
        self.assertGreater(more_known, 300)

    def test_all_known(self):
        # Then what can be must be.
        rng = random.Random(47)
        for rest in DRAWN:
            readings = drawn_readings(rest, rng, (0, 1))
            keys, code = must(rest, readings)
            self.assertEqual(can(rest, readings), (keys, (code,)))

    def test_by_hand(self):
        none = {"a": None, "o": None, (): None}
        self.assertEqual(must(HAND_BODY, none), ((), None))
        self.assertEqual(can(HAND_BODY, none), (("o", ()), (0, 1)))
        self.assertEqual(run_parts(HAND_BODY, none), [(), (2,), (2, 1), (2, 2)])
        given = {"a": 1, "o": None, (): None}
        self.assertEqual(must(HAND_BODY, given), (((),), None))
        self.assertEqual(can(HAND_BODY, given), (("o", ()), (0,)))
        self.assertEqual(must(HAND_BODY, {**given, (): 1}), (("o", ()), 0))
        self.assertEqual(can(HAND_BODY, {**none, "a": 0}), (("o",), (1,)))
        both = {"o": None, (): None, (2, 2): None}
        self.assertEqual(must(TWO_LOCALS, both), (((),), None))
        self.assertEqual(can(TWO_LOCALS, {**both, (2, 2): 1}), (("o", ()), (0,)))
        self.assertEqual(must(TWO_LOCALS, {**both, (2, 2): 0}), (((),), 1))
        self.assertEqual(run_parts(TWO_LOCALS, {**both, (): 1}), [(), (2,), (2, 1), (2, 2), (2, 2, 2)])

    def test_form_by_form(self):
        def told(rest, readings):
            return must(rest, readings), can(rest, readings), run_parts(rest, readings)

        self.assertEqual(told(NOTHING, {}), (((), 0), ((), (0,)), [()]))
        self.assertEqual(told(PAUSE, {}), (((), 1), ((), (1,)), [()]))
        self.assertEqual(told(("exit", 4), {}), (((), 6), ((), (6,)), [()]))
        self.assertEqual(told(("emit", "a"), {"a": 0}), ((("a",), 0), (("a",), (0,)), [()]))
        ask = ("if", "a", ("emit", "b"), ("seq", ("emit", "c"), PAUSE))
        known = {"a": None, "b": None, "c": None}
        self.assertEqual(told(ask, known), (((), None), (("b", "c"), (0, 1)), [()]))
        self.assertEqual(told(ask, {**known, "a": 1}), ((("b",), 0), (("b",), (0,)), [(), (2,)]))
        self.assertEqual(told(ask, {**known, "a": 0}), ((("c",), 1), (("c",), (1,)), [(), (3,), (3, 1), (3, 2)]))
        hold = ("hold", "a", ("emit", "b"))
        known = {"a": None, "b": None}
        self.assertEqual(told(hold, known), (((), None), (("b",), (0, 1)), [()]))
        self.assertEqual(told(hold, {**known, "a": 1}), (((), 1), ((), (1,)), [()]))
        self.assertEqual(told(hold, {**known, "a": 0}), ((("b",), 0), (("b",), (0,)), [(), (2,)]))
        suspend = ("suspend", "a", ("emit", "b"))
        for reading in (0, 1, None):
            self.assertEqual(told(suspend, {**known, "a": reading}), ((("b",), 0), (("b",), (0,)), [(), (2,)]))
        seq = ("seq", ("if", "a", NOTHING, ("exit", 0)), ("emit", "b"))
        self.assertEqual(told(seq, known), (((), None), (("b",), (0, 2)), [(), (1,)]))
        self.assertEqual(told(seq, {**known, "a": 1}), ((("b",), 0), (("b",), (0,)), [(), (1,), (1, 2), (2,)]))
        self.assertEqual(told(seq, {**known, "a": 0}), (((), 2), ((), (2,)), [(), (1,), (1, 3)]))
        par = ("par", ("if", "a", ("exit", 1), PAUSE), ("par", ("exit", 0), ("emit", "b")))
        self.assertEqual(told(par, known)[:2], ((("b",), None), (("b",), (2, 3))))
        self.assertEqual(told(par, {**known, "a": 1})[:2], ((("b",), 3), (("b",), (3,))))
        self.assertEqual(told(("trap", par), {**known, "a": 1})[:2], ((("b",), 2), (("b",), (2,))))
        self.assertEqual(told(("trap", par), {**known, "a": 0})[:2], ((("b",), 0), (("b",), (0,))))
        self.assertEqual(told(("loop", PAUSE), {}), (((), 1), ((), (1,)), [(), (1,)]))

    def test_great_ones(self):
        self.assertEqual(len(run_parts(broad(2000), {})), 2000)
        self.assertEqual(must(chain(80, ("exit", 20)), {}), ((), 0))
        rest = ("local", "a", ("emit", "a"))
        for _ in range(39):
            rest = ("local", "a", ("par", ("emit", "a"), rest))
        readings = {path: None for path in plainwords.locals_of(rest)}
        self.assertEqual(must(rest, readings), (tuple(plainwords.locals_of(rest)), 0))

    def test_wrong_rests(self):
        for function in (must, can, run_parts):
            self.wrong_values(function, (HAND_BODY, {"a": 0, "o": 1, (): None}), 0, BadRest,
                              lambda x: plainwords.rest(x), least=100)
            self.refuses(BadRest, function, (broad(2001), {}))
            self.refuses(BadRest, function, (chain(81), {}))
            self.first_error(function, (HAND_BODY, {"a": 0, "o": 1, (): None}), (BadRest, BadReadings))

    def test_wrong_readings(self):
        good = {"a": 0, "o": 1, (): None}
        inner = {"o": 1, (): 0, (2, 2): None}
        more = [{**good, "a": True}, {**good, "a": False}, {**good, "a": 2}, {**good, "x": 0}, {"a": 0, "o": 1},
                {"a": 0, "o": 1, (1,): 0}, {}, [("a", 0), ("o", 1), ((), None)], {**good, None: 0}, {**good, 0: 0},
                {"a": 0, "o": 1, "": None}, {"A": 0, "o": 1, (): None}, {**good, True: 1}, {**good, ("a",): 0}]
        more += [{"o": 1, (): 0, (2, 2, 2): 0}, {"o": 1, (): 0, (2, True): 0}, {"o": 1, (): 0, ((2, 2),): 0}]
        for function in (must, can, run_parts):
            for rest, readings in ((HAND_BODY, good), (TWO_LOCALS, inner)):
                self.wrong_values(function, (rest, readings), 1, BadReadings,
                                  lambda x: right_readings(rest, x), more=more, least=100)
            loop = ("loop", ("local", "s", PAUSE))
            self.refuses(BadReadings, function, (loop, {(True,): 0}))
            self.refuses(BadReadings, function, (loop, {(1,): True}))
            function(loop, {(1,): 0})

    def test_values_of_every_kind_as_keys(self):
        for key in itertools.chain(every_kind(), changed((2, 2))):
            try:
                readings = {"o": 1, (): 0, key: None}
            except TypeError:
                continue
            for function in (must, can, run_parts):
                if repr(key) == "(2, 2)":
                    function(TWO_LOCALS, readings)
                else:
                    self.refuses(BadReadings, function, (TWO_LOCALS, readings))
