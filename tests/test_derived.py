import itertools
import random

from restsure.derived import at_once, each, every, halt, strongly, sustain, waiting, weakly
from restsure.errors import BadRest, BadSignal, TooMany
from restsure.instants import react
from restsure.statements import is_rest
from tests import drawnwords, plainwords
from tests.contract import Contract
from tests.drawnwords import NOTHING, PAUSE, broad, chain
from tests.values import every_kind

# Statements that may test s, and emit a, b, o alone, from which no exit leads out.
NAMES = ("a", "b", "o")
PROGRAM = (("a", "b", "s"), ("o",), NOTHING)
SINGLE = (waiting, at_once, sustain)
DOUBLE = (weakly, strongly, each, every)


def asking(thing):
    """The statement with s asked where it asked b."""
    if thing[0] in ("if", "suspend", "hold") and thing[1] == "b":
        thing = (thing[0], "s") + thing[2:]
    return tuple(asking(item) if isinstance(item, tuple) else item for item in thing)


DRAWN = [asking(thing) if seed % 3 == 0 else thing
         for seed, thing in enumerate(drawnwords.statements(260, 12, NAMES, True, -1))]


def to_the_letter(word, s, p):
    """Point 34, told once more."""
    leave = ("if", s, ("exit", 0), NOTHING)
    watch = ("loop", ("seq", PAUSE, leave))
    if word is halt:
        return ("loop", PAUSE)
    if word is sustain:
        return ("loop", ("seq", ("emit", s), PAUSE))
    if word is waiting:
        return ("trap", watch)
    if word is at_once:
        return ("trap", ("loop", ("seq", leave, PAUSE)))
    if word is weakly:
        return ("trap", ("par", ("seq", plainwords.raised(p, 1), ("exit", 0)), watch))
    if word is strongly:
        return ("trap", ("par", ("seq", ("suspend", s, plainwords.raised(p, 1)), ("exit", 0)), watch))
    if word is each:
        return ("loop", to_the_letter(strongly, s, ("seq", p, to_the_letter(halt, s, p))))
    return ("seq", to_the_letter(waiting, s, p), to_the_letter(each, s, p))


def steps(state, rows):
    """What react tells from state on, up to the first None."""
    told = []
    for given in rows:
        told.append(react(PROGRAM, state, given))
        if told[-1] is None:
            break
        state = told[-1][2]
    return told


def rows(seed, many=6):
    rng = random.Random(seed)
    return [(rng.randint(0, 1), rng.randint(0, 1), int(rng.random() < 0.3)) for _ in range(many)]


class Letters(Contract):
    def test_to_the_letter(self):
        self.assertEqual(self.kept(halt, (), ()), ("loop", PAUSE))
        for s in ("s", "a", "abcdefgh"):
            for word in SINGLE:
                told = self.kept(word, ("s",), (s,))
                self.assertEqual(told, to_the_letter(word, s, None))
                self.assertTrue(is_rest(told))
            for word, p in itertools.product(DOUBLE, drawnwords.statements(60)):
                told = self.kept(word, ("s", "p"), (s, p))
                self.assertEqual(told, to_the_letter(word, s, p))
                self.assertTrue(is_rest(told))

    def test_by_hand(self):
        leave = ("if", "s", ("exit", 0), NOTHING)
        watch = ("loop", ("seq", PAUSE, leave))
        self.assertEqual(sustain("s"), ("loop", ("seq", ("emit", "s"), PAUSE)))
        self.assertEqual(waiting("s"), ("trap", watch))
        self.assertEqual(at_once("s"), ("trap", ("loop", ("seq", leave, PAUSE))))
        self.assertEqual(weakly("s", ("exit", 2)), ("trap", ("par", ("seq", ("exit", 3), ("exit", 0)), watch)))
        inner = ("trap", ("exit", 1))
        self.assertEqual(strongly("s", inner), ("trap", ("par", ("seq", ("suspend", "s", ("trap", ("exit", 2))), ("exit", 0)), watch)))
        self.assertEqual(strongly("s", ("trap", ("exit", 0)))[1][1][1][2], ("trap", ("exit", 0)))
        self.assertEqual(each("s", ("exit", 0)), ("loop", ("trap", ("par", ("seq", ("suspend", "s", (
            "seq", ("exit", 1), ("loop", PAUSE))), ("exit", 0)), watch))))
        self.assertEqual(every("s", PAUSE), ("seq", ("trap", watch), each("s", PAUSE)))

    def test_exits_that_lead_out(self):
        for word in DOUBLE:
            for p in (("exit", 20), ("trap", ("exit", 20)), ("par", PAUSE, ("trap", ("trap", ("exit", 20))))):
                with self.assertRaises(TooMany) as caught:
                    word("s", p)
                self.assertEqual(caught.exception.most, 20)
            self.assertIn(("exit", 20), list(self.parts(word("s", ("exit", 19)))))
            for p in (("exit", 20), PAUSE):
                self.refuses(BadSignal, word, ("S", p))
            deep = PAUSE
            for _ in range(21):
                deep = ("trap", ("par", deep, ("exit", 20) if deep == PAUSE else PAUSE))
            self.assertEqual(word("s", deep), to_the_letter(word, "s", deep))

    def parts(self, thing):
        yield thing
        for _, kid in plainwords.kids(thing):
            yield from self.parts(kid)

    def test_great_ones(self):
        for p in (chain(80), broad(2000), chain(70)):
            for word in DOUBLE:
                self.assertEqual(word("s", p), to_the_letter(word, "s", p))

    def test_wrong_ones(self):
        for word in SINGLE:
            self.wrong_values(word, ("s",), 0, BadSignal, plainwords.signal, least=60, more=["A", "s1", ("s",), ["s"]])
        for word in DOUBLE:
            args = ("s", ("seq", PAUSE, ("hold", "a", ("exit", 1))))
            self.wrong_values(word, args, 0, BadSignal, plainwords.signal, least=60)
            self.wrong_values(word, args, 1, BadRest, plainwords.rest, least=100,
                              more=[None, broad(2001), chain(81), ("loop", NOTHING), ["pause"], ("exit", True), ("exit", 21)])
            self.first_error(word, args, (BadSignal, BadRest))
            for value in every_kind():
                if not plainwords.signal(value):
                    self.refuses(BadSignal, word, (value, ("exit", 20)))


class Facts(Contract):
    """What they do, on drawn statements: s is an input that none of them emits."""

    def wanted(self, p, row, weak):
        """What p tells until it ends or is broken off, (totals, code) each, None where it is unsure."""
        told, state = [], p
        for at, given in enumerate(row):
            off = at > 0 and given[2] == 1
            if off and not weak:
                return told + [(given + (0,), 0)]
            now = plainwords.react(PROGRAM, state, given)
            if now is None:
                return told + [None]
            told.append((now[0], 0 if off else now[1]))
            if told[-1][1] == 0:
                return told
            state = now[2]
        return told

    def test_broken_off(self):
        seen = {}
        for weak, word in ((True, weakly), (False, strongly)):
            for seed, p in enumerate(DRAWN):
                row = rows(seed)
                wanted = self.wanted(p, row, weak)
                told = steps(word("s", p), row)
                for at, now in enumerate(wanted):
                    self.assertEqual(None if told[at] is None else told[at][:2], now)
                ended = wanted[-1] is not None and wanted[-1][1] == 0
                for at in range(len(wanted), len(row)):
                    if ended:
                        self.assertEqual(told[at], (row[at] + (0,), 0, None))
                key = (weak, "unsure" if wanted[-1] is None else "off" if ended and row[len(wanted) - 1][2] else ended)
                seen[key] = seen.get(key, 0) + 1
        self.assertGreater(min(seen[weak, how] for weak in (True, False) for how in ("unsure", "off", True, False)), 5)

    def test_begun_anew(self):
        seen = {}
        for seed, p in enumerate(DRAWN):
            row = rows(1000 + seed, 8)
            for word in (each, every):
                told = steps(word("s", p), row)
                state, begun = p, word is each
                for at, given in enumerate(row):
                    if at > 0 and given[2] == 1:
                        state, begun = p, True
                    if not begun:
                        self.assertEqual(told[at][:2], (given + (0,), 1))
                        continue
                    now = plainwords.react(PROGRAM, state, given)
                    if now is None:
                        self.assertIsNone(told[at])
                        seen["unsure"] = seen.get("unsure", 0) + 1
                        break
                    self.assertEqual(told[at][:2], (now[0], 1))
                    state = now[2]
                    seen[at] = seen.get(at, 0) + 1
        self.assertGreater(min(seen["unsure"], seen[0], seen[7]), 20)

    def test_exits_go_out_of_them(self):
        for seed, p in enumerate(drawnwords.statements(150, 10, NAMES, True, 1, start=300)):
            if all(code < 2 for code in plainwords.codes(p)):
                continue
            alone = ("trap", ("seq", ("trap", ("seq", p, ("exit", 1))), ("emit", "o")))
            around = ("trap", ("seq", ("trap", ("seq", weakly("s", p), ("exit", 1))), ("emit", "o")))
            row = [given[:2] + (0,) for given in rows(seed)]
            self.assertEqual([now and now[:2] for now in steps(alone, row)], [now and now[:2] for now in steps(around, row)])

    def test_plain_ones_along_rows(self):
        for row in itertools.product([(0, 0, 0), (0, 0, 1)], repeat=4):
            there = [given[2] for given in row]
            later = there.index(1, 1) if 1 in there[1:] else 4
            self.assertEqual([now[1] for now in steps(halt(), row)], [1] * 4)
            self.assertEqual([now[1] for now in steps(waiting("s"), row)], [1] * later + [0] * (4 - later))
            first = there.index(1) if 1 in there else 4
            self.assertEqual([now[1] for now in steps(at_once("s"), row)], [1] * first + [0] * (4 - first))
            self.assertEqual([now[:2] for now in steps(sustain("o"), row)], [(given + (1,), 1) for given in row])
