import itertools
import random

from restsure.errors import BadGiven, BadProgram, BadRows, BadState, TooMany
from restsure.instants import is_shown_sure, known_at, react, run_program, shown_sure, ways
from restsure.statements import is_program, is_rest, raised, renamed
from tests import drawnwords, plainly, plainwords
from tests.contract import Contract
from tests.drawnwords import HAND, HAND_BODY, NO_WAY, NOTHING, PAUSE, TWO_LOCALS, UNSURE, broad, chain
from tests.values import changed, every_kind

NAMES = ("program", "state", "given")
PROGRAMS = drawnwords.programs(150)
# A cycle that has one way and is not sure.
ONE_WAY = ((), ("o",), ("if", "o", ("emit", "o"), ("emit", "o")))


def instants(programs, many=3):
    """Instants of programs, in their first states and in those behind them, and in drawn ones."""
    rng = random.Random(53)
    for prog in programs:
        state = prog[2]
        for _ in range(many):
            for given in plainly.all_bits(len(prog[0])):
                yield prog, state, given
            told = plainwords.react(prog, state, rng.choice(plainly.all_bits(len(prog[0]))))
            if told is None or state is None:
                break
            state = told[2]


def drawn_states(many):
    """Instants of states with holds that a program may or may not come to."""
    for seed in range(many):
        rng = random.Random(1000 + seed)
        state = drawnwords.draw(rng, rng.randint(1, 12), ("a", "b", "o", "p"), True, exits=-1)
        yield (("b", "a"), ("p", "o"), NOTHING), state, (rng.randint(0, 1), rng.randint(0, 1))


ALL = list(instants(PROGRAMS)) + list(drawn_states(150))


def outcome(told):
    """The error's attribute, or what is told."""
    try:
        return told()
    except TooMany as error:
        return ("too many", error.most)


class Reacting(Contract):
    def test_drawn(self):
        kinds = {}
        for args in ALL:
            told = self.kept(react, NAMES, args)
            self.assertEqual(repr(told), repr(plainwords.react(*args)))
            kind = None if told is None else told[1]
            kinds[kind] = kinds.get(kind, 0) + 1
            if told is not None and told[1] == 1:
                self.assertTrue(plainwords.state(args[0], told[2]))
        self.assertGreater(min(kinds[None], kinds[0], kinds[1]), 50)

    def test_by_hand(self):
        self.assertEqual(react(HAND, HAND_BODY, (1,)), ((1, 1), 0, None))
        self.assertEqual(react(HAND, HAND_BODY, (0,)), ((0, 0), 1, ("local", "s", NOTHING)))
        self.assertIsNone(react(UNSURE, UNSURE[2], ()))
        self.assertIsNone(react(NO_WAY, NO_WAY[2], ()))
        self.assertIsNone(react(ONE_WAY, ONE_WAY[2], ()))
        # An input that is emitted is there.
        self.assertEqual(react((("a",), (), ("emit", "a")), ("emit", "a"), (0,)), ((1,), 0, None))
        # A local that is not run may stay unknown.
        off = ((), ("o",), ("if", "o", ("local", "s", ("if", "s", ("emit", "s"), NOTHING)), PAUSE))
        self.assertEqual(react(off, off[2], ()), ((0,), 1, NOTHING))
        self.assertEqual(known_at(off, off[2], ()), {"o": 0, (2,): 0})
        stays = (("a",), (), ("if", "a", PAUSE, ("local", "s", ("if", "s", ("emit", "s"), NOTHING))))
        self.assertIsNone(react(stays, stays[2], (0,)))
        self.assertEqual(react(stays, stays[2], (1,)), ((1,), 1, NOTHING))
        # Two locals of one signal, one within the other.
        both = ((), ("o",), TWO_LOCALS)
        self.assertEqual(react(both, TWO_LOCALS, ()), ((0,), 1, ("local", "s", ("local", "s", NOTHING))))
        self.assertEqual(known_at(both, TWO_LOCALS, ()), {"o": 0, (): 1, (2, 2): 0})

    def test_rests_by_hand(self):
        def rest(state, given=(0,)):
            return react((("a",), ("o",), PAUSE), state, given)[2]

        self.assertEqual(rest(PAUSE), NOTHING)
        self.assertEqual(rest(("if", "a", NOTHING, PAUSE)), NOTHING)
        self.assertEqual(rest(("seq", PAUSE, ("emit", "o"))), ("seq", NOTHING, ("emit", "o")))
        self.assertEqual(rest(("seq", ("emit", "o"), PAUSE)), NOTHING)
        self.assertEqual(rest(("par", PAUSE, PAUSE)), ("par", NOTHING, NOTHING))
        self.assertEqual(rest(("par", PAUSE, ("emit", "o"))), NOTHING)
        self.assertEqual(rest(("par", ("emit", "o"), PAUSE)), NOTHING)
        loop = ("loop", ("seq", PAUSE, ("emit", "o")))
        self.assertEqual(rest(loop), ("seq", ("seq", NOTHING, ("emit", "o")), loop))
        self.assertEqual(rest(rest(loop)), rest(loop))
        self.assertEqual(rest(("suspend", "a", PAUSE), (1,)), ("hold", "a", NOTHING))
        hold = ("hold", "a", ("seq", PAUSE, PAUSE))
        self.assertEqual(rest(hold, (1,)), hold)
        self.assertEqual(rest(hold, (0,)), ("hold", "a", ("seq", NOTHING, PAUSE)))
        self.assertEqual(rest(("trap", ("seq", PAUSE, ("exit", 0)))), ("trap", ("seq", NOTHING, ("exit", 0))))
        self.assertEqual(rest(("local", "s", PAUSE)), ("local", "s", NOTHING))

    def test_the_state_none(self):
        for prog in (HAND, UNSURE, ((), (), PAUSE), (("b", "a"), ("z", "o"), PAUSE)):
            for given in plainly.all_bits(len(prog[0])):
                totals = given + (0,) * len(prog[1])
                self.assertEqual(react(prog, None, given), (totals, 0, None))
                known = dict(sorted(zip(prog[0] + prog[1], totals)))
                self.assertEqual(repr(known_at(prog, None, given)), repr(known))
                self.assertEqual(repr(ways(prog, None, given)), repr([known]))
                paper = shown_sure(prog, None, given)
                self.assertEqual(paper[0], "sure")
                self.assertTrue(is_shown_sure(prog, None, given, paper))
                self.assertFalse(is_shown_sure(prog, None, given, ("unsure", paper[1])))

    def test_rests_that_are_too_great(self):
        prog = ((), (), PAUSE)
        told = react(prog, ("loop", broad(999)), ())
        self.assertEqual(plainwords.size(told[2], 80, True), 2000)
        for big in (("loop", broad(1000)), ("loop", broad(1999)), ("loop", ("loop", broad(700)))):
            with self.assertRaises(TooMany) as caught:
                react(prog, big, ())
            self.assertEqual(caught.exception.most, 2000)

    def test_exactly_so_many_statements(self):
        sizes = set()
        for many in range(995, 1001):
            for gone in (PAUSE, ("seq", NOTHING, PAUSE), ("trap", PAUSE)):
                body = ("loop", ("if", "a", broad(many), gone))
                size = plainwords.size(plainwords.remains(body, {"a": 1}), 90, True)
                told = outcome(lambda: react((("a",), (), PAUSE), body, (1,)))
                self.assertEqual(told == ("too many", 2000), size > 2000)
                sizes.add(size)
        self.assertLessEqual({1999, 2000, 2001, 2002}, sizes)

    def test_rests_of_too_many_levels(self):
        prog = ((), (), PAUSE)
        self.assertEqual(outcome(lambda: react(prog, ("loop", chain(79)), ())), ("too many", 80))
        self.assertEqual(plainwords.size(react(prog, ("loop", chain(78)), ())[2], 80, True), 78 + 1 + 79)
        self.assertEqual(react(prog, chain(80), ())[2], chain(80, NOTHING))
        # So it is where what grows stands within others.
        for many, around in itertools.product((77, 78), (("trap",), ("local", "s"), ("suspend", "a"), ("seq", NOTHING))):
            state = around + (("loop", chain(many)),)
            self.assertTrue(is_rest(state))
            told = outcome(lambda: react((("a",), (), PAUSE), state, (0,)))
            deepest = plainwords.remains(state, {"a": 0, (): 0})
            self.assertEqual(told == ("too many", 80), not is_rest(deepest))
            self.assertEqual(is_rest(deepest), many == 77 or around[0] == "seq")
        for state in (("par", ("loop", chain(78)), PAUSE), ("par", PAUSE, ("loop", chain(78))),
                      ("seq", ("loop", chain(78)), PAUSE), ("trap", ("seq", ("loop", chain(77)), PAUSE))):
            self.assertEqual(outcome(lambda: react(prog, state, ())), ("too many", 80))
        # Too many statements is told ahead of too many levels.
        both = ("loop", chain(65, broad(1400)))
        self.assertTrue(is_rest(both))
        self.assertEqual(outcome(lambda: react(prog, both, ())), ("too many", 2000))
        # So is it by a program's own run; an unsure instant comes ahead of both.
        body = broad(150)
        for _ in range(30):
            body = ("loop", body)
        self.assertTrue(is_program(((), (), body)))
        self.assertEqual(outcome(lambda: react(((), (), body), body, ())), ("too many", 2000))
        self.assertEqual(outcome(lambda: run_program(((), (), body), [()])), ("too many", 2000))
        self.assertEqual(run_program(((), (), body), []), [])
        unsure = ((), ("o",), ("par", UNSURE[2], body))
        self.assertIsNone(react(unsure, unsure[2], ()))
        self.assertEqual(run_program(unsure, [(), ()]), [None])
        # The other functions do not ask for the rest.
        self.assertEqual(known_at(((), (), body), body, ()), {})
        self.assertEqual(shown_sure(((), (), body), body, ()), ("sure", ()))
        self.assertTrue(is_shown_sure(((), (), body), body, (), ("sure", ())))
        self.assertEqual(ways(((), (), body), body, ()), [{}])


class Known(Contract):
    def test_drawn(self):
        for args in ALL:
            wanted, _ = plainwords.known_at(*args)
            self.assertEqual(repr(self.kept(known_at, NAMES, args)), repr(wanted))
            self.assertEqual(list(wanted), sorted(args[0][0] + args[0][1])
                             + plainwords.locals_of(("nothing",) if args[1] is None else args[1]))

    def test_papers(self):
        words = {}
        for args in ALL:
            paper = self.kept(shown_sure, NAMES, args)
            self.assertTrue(plainwords.is_shown_sure(*args, paper))
            self.assertIs(self.kept(is_shown_sure, NAMES + ("thing",), args + (paper,)), True)
            other = {"sure": "unsure", "unsure": "sure"}[paper[0]]
            self.assertFalse(is_shown_sure(*args, (other, paper[1])))
            self.assertEqual(paper[0] == "sure", react(*args) is not None)
            words[paper[0]] = words.get(paper[0], 0) + 1
        self.assertGreater(min(words.values()), 50)

    def test_any_sequence_of_steps(self):
        rng = random.Random(59)
        for args in ALL:
            known, steps = plainwords.known_at(*args, choose=rng.choice)
            self.assertEqual(known, known_at(*args))
            word = shown_sure(*args)[0]
            self.assertTrue(is_shown_sure(*args, (word, steps)))
            self.assertFalse(is_shown_sure(*args, (word, list(steps))))
            if steps:
                for thing in (("unsure", steps[:-1]), ("sure", steps[:-1]), (word, steps + steps[-1:]), (word, steps[::-1]),
                              (word, steps[1:]), (word, steps[:-1] + ((steps[-1][0], 1 - steps[-1][1]),))):
                    self.assertEqual(is_shown_sure(*args, thing), plainwords.is_shown_sure(*args, thing))

    def test_a_paper_need_not_tell_locals_that_are_not_run(self):
        prog = (("a",), (), ("if", "a", PAUSE, ("local", "s", PAUSE)))
        self.assertTrue(is_shown_sure(prog, prog[2], (1,), ("sure", ())))
        self.assertTrue(is_shown_sure(prog, prog[2], (1,), ("sure", (((3,), 0),))))
        self.assertFalse(is_shown_sure(prog, prog[2], (0,), ("sure", (((3,), 0),))))
        self.assertFalse(is_shown_sure(prog, prog[2], (0,), ("sure", (("a", 0),))))
        self.assertTrue(is_shown_sure(prog, prog[2], (0,), ("sure", (("a", 0), ((3,), 0)))))
        # What is given is not told once more.
        self.assertFalse(is_shown_sure(prog, prog[2], (1,), ("sure", (("a", 1),))))

    def test_judging(self):
        for args in ((HAND, HAND_BODY, (1,)), (HAND, HAND_BODY, (0,)), (UNSURE, UNSURE[2], ()),
                     (((), ("o",), TWO_LOCALS), TWO_LOCALS, ()), (HAND, None, (1,)), (((), (), PAUSE), PAUSE, ())):
            paper = shown_sure(*args)
            values = every_kind() + list(changed(paper)) + [paper, list(paper), paper + ((),), paper[:1], ("sure", ()), ("unsure", ())]
            values += [(paper[0], steps) for steps in itertools.permutations(paper[1])]
            told = self.judges(lambda x: self.kept(is_shown_sure, NAMES + ("thing",), args + (x,)),
                               lambda x: plainwords.is_shown_sure(*args, x), values)
            self.assertGreater(told[True], 0)
        loop = ((), (), ("loop", ("local", "s", PAUSE)))
        self.assertTrue(is_shown_sure(loop, loop[2], (), ("sure", (((1,), 0),))))
        self.assertFalse(is_shown_sure(loop, loop[2], (), ("sure", (((True,), 0),))))
        self.assertFalse(is_shown_sure(loop, loop[2], (), ("sure", (((1,), False),))))
        self.assertFalse(is_shown_sure(loop, loop[2], (), ("sure", (([1], 0),))))
        self.assertFalse(is_shown_sure(loop, loop[2], (), ("sure", ([(1,), 0],))))

    def test_by_hand(self):
        self.assertEqual(known_at(HAND, HAND_BODY, (1,)), {"a": 1, "o": 1, (): 1})
        self.assertEqual(known_at(UNSURE, UNSURE[2], ()), {"o": None})
        self.assertEqual(shown_sure(UNSURE, UNSURE[2], ()), ("unsure", ()))
        self.assertEqual(repr(known_at((("z", "b"), ("y", "a"), TWO_LOCALS[:1] + ("s", PAUSE)), TWO_LOCALS[:1] + ("s", PAUSE), (1, 0))),
                         "{'a': 0, 'b': 0, 'y': 0, 'z': 1, (): 0}")

    def test_great_states(self):
        rest = PAUSE
        for _ in range(79):
            rest = ("local", "s", rest)
        prog = ((), (), PAUSE)
        self.assertEqual(known_at(prog, rest, ()), {path: 0 for path in plainwords.locals_of(rest)})
        # Locals each of which is known only when the next one is.
        row = ("emit", "s")
        for _ in range(15):
            row = ("local", "t", ("par", ("if", "t", ("emit", "s"), PAUSE), ("local", "s", ("par", ("if", "s", ("emit", "t"), PAUSE), row))))
        self.assertTrue(is_rest(row))
        told = shown_sure((("s",), (), PAUSE), row, (0,))
        self.assertEqual(told[0], "sure")
        self.assertTrue(is_shown_sure((("s",), (), PAUSE), row, (0,), told))


class Ways(Contract):
    def test_drawn(self):
        counts = {}
        for args in ALL + [(prog, prog[2], ()) for prog in (UNSURE, NO_WAY, ONE_WAY)]:
            state = NOTHING if args[1] is None else args[1]
            if len(args[0][0]) + len(args[0][1]) + len(plainwords.locals_of(state)) > 6:
                continue
            told = self.kept(ways, NAMES, args)
            self.assertEqual(repr(told), repr(plainwords.ways(*args)))
            counts[len(told)] = counts.get(len(told), 0) + 1
            if react(*args) is not None:
                known = known_at(*args)
                self.assertEqual(len(told), 1)
                for key, reading in told[0].items():
                    self.assertTrue(reading == known[key] or (reading is None and isinstance(key, tuple)))
        self.assertGreater(min(counts.get(many, 0) for many in (0, 1, 2)), 10)

    def test_by_hand(self):
        self.assertEqual(ways(UNSURE, UNSURE[2], ()), [{"o": 0}, {"o": 1}])
        self.assertEqual(ways(NO_WAY, NO_WAY[2], ()), [])
        # Not the other way round: one way, and yet not sure.
        self.assertEqual(ways(ONE_WAY, ONE_WAY[2], ()), [{"o": 1}])
        self.assertIsNone(react(ONE_WAY, ONE_WAY[2], ()))
        self.assertEqual(ways(HAND, HAND_BODY, (1,)), [{"a": 1, "o": 1, (): 1}])
        # None stands behind 1.
        prog = ((), ("o",), ("if", "o", ("emit", "o"), ("local", "s", NOTHING)))
        self.assertEqual(ways(prog, prog[2], ()), [{"o": 0, (3,): 0}, {"o": 1, (3,): None}])
        prog = ((), ("o", "p"), ("par", ("if", "o", ("emit", "o"), NOTHING),
                                 ("if", "o", NOTHING, ("local", "s", ("if", "s", ("emit", "s"), NOTHING)))))
        self.assertEqual(ways(prog, prog[2], ()), [{"o": 0, "p": 0, (2, 3): 0}, {"o": 0, "p": 0, (2, 3): 1},
                                                   {"o": 1, "p": 0, (2, 3): None}])
        split = ((), (), ("par", ("local", "s", ("if", "s", ("emit", "s"), ("local", "t", PAUSE))), PAUSE))
        self.assertEqual(ways(split, split[2], ()), [{(1,): 0, (1, 2, 3): 0}, {(1,): 1, (1, 2, 3): None}])

    def test_twelve_and_thirteen(self):
        def loose(names):
            body = NOTHING
            for name in names:
                body = ("par", ("if", name, ("emit", name), NOTHING), body)
            return body

        names = tuple("abcdefgh"), tuple("ijkl")
        told = ways(names + (loose("abcdefghijkl"),), loose("abcdefghijkl"), (0,) * 8)
        self.assertEqual(len(told), 2 ** 12)
        self.assertEqual([tuple(row.values()) for row in told], plainly.all_bits(12))
        local = ("local", "s", loose("abs"))
        self.assertEqual(len(ways((("a", "b"), (), PAUSE), local, (0, 0))), 8)
        for prog, state in ((names + (PAUSE,), ("local", "s", PAUSE)), (names[:1] + (tuple("ijklm"), PAUSE), PAUSE),
                            (names[:1] + (tuple("ijklm"), PAUSE), None)):
            self.assertEqual(outcome(lambda: ways(prog, state, (0,) * 8)), ("too many", 12))
            known_at(prog, state, (0,) * 8)
            self.refuses(BadGiven, ways, (prog, state, (0,) * 7))
        many = PAUSE
        for _ in range(13):
            many = ("local", "s", many)
        self.assertEqual(outcome(lambda: ways(((), (), PAUSE), many, ())), ("too many", 12))
        self.assertEqual(ways(((), (), PAUSE), many[2], ()), [{path: 0 for path in plainwords.locals_of(many[2])}])


class Runs(Contract):
    def test_drawn(self):
        rng = random.Random(61)
        unsure = 0
        for prog in PROGRAMS:
            rows = [(rng.randint(0, 1), rng.randint(0, 1)) for _ in range(5)]
            wanted, state = [], prog[2]
            for given in rows:
                told = plainwords.react(prog, state, given)
                wanted.append(told)
                if told is None:
                    unsure += 1
                    break
                state = told[2]
            self.assertEqual(repr(self.kept(run_program, ("program", "rows"), (prog, rows))), repr(wanted))
            self.alike_lists(run_program, (prog, rows), 1)
        self.assertGreater(unsure, 10)

    def test_edges(self):
        self.assertEqual(run_program(HAND, []), [])
        self.assertEqual(run_program(HAND, [(0,), (1,), (0,)]),
                         [((0, 0), 1, ("local", "s", NOTHING)), ((1, 0), 0, None), ((0, 0), 0, None)])
        self.assertEqual(run_program(UNSURE, [(), (), ()]), [None])
        halt = ((), ("o",), ("loop", ("seq", ("emit", "o"), PAUSE)))
        told = run_program(halt, [()] * 400)
        self.assertEqual([row[:2] for row in told], [((1,), 1)] * 400)
        self.refuses(BadRows, run_program, (halt, [()] * 401))
        self.refuses(BadRows, run_program, (halt, ((),) * 401))
        late = (("a",), ("o",), ("seq", PAUSE, UNSURE[2]))
        self.assertEqual(run_program(late, [(1,), (0,), (0,)]), [((1, 0), 1, ("seq", NOTHING, UNSURE[2])), None])

    def test_wrong_ones(self):
        rows = [(0,), (1,)]
        self.wrong_values(run_program, (HAND, rows), 0, BadProgram, plainwords.program, least=100)
        self.wrong_values(run_program, (HAND, rows), 1, BadRows, least=80, more=[[(True,)], [[0]], [(0, 0)], [()], [(2,)], {(0,): 1}],
                          is_right=lambda x: type(x) in (list, tuple) and len(x) <= 400 and all(plainly.bits(y, 1) for y in x))
        self.first_error(run_program, (HAND, rows), (BadProgram, BadRows))
        # Rows are judged before the program is run.
        self.refuses(BadRows, run_program, (UNSURE, [(), (0,)]))

    def test_wrong_instants(self):
        for function, more in ((react, ()), (known_at, ()), (shown_sure, ()), (ways, ()), (is_shown_sure, ("x",))):
            args = (HAND, HAND_BODY, (1,)) + more
            self.wrong_values(function, args, 0, BadProgram, lambda x: plainwords.program(x), least=100)
            self.wrong_values(function, args, 1, BadState, lambda x: plainwords.state(HAND, x), least=60,
                              more=[("emit", "x"), ("exit", 0), broad(2001), chain(81), False, ("loop", NOTHING), ()])
            self.wrong_values(function, args, 2, BadGiven, lambda x: plainly.bits(x, 1), least=80,
                              more=[(True,), (None,), [0], (0, 0), (), {"a": 0}, (2,)])
            self.first_error(function, args, (BadProgram, BadState, BadGiven))


class Facts(Contract):
    """Point 33."""

    def rows(self, many, seed):
        rng = random.Random(seed)
        return [(rng.randint(0, 1), rng.randint(0, 1)) for _ in range(many)]

    def told(self, prog, rows):
        return [None if row is None else row[:2] for row in run_program(prog, rows)]

    def test_side_by_side(self):
        swap = {"a": "c", "b": "d", "o": "q", "p": "r"}

        def other(thing):
            if isinstance(thing, tuple):
                return tuple(other(item) for item in thing)
            return swap.get(thing, thing)

        seen = {True: 0, False: 0}
        for one, two in zip(PROGRAMS, PROGRAMS[1:]):
            two = other(two)
            both = (one[0] + two[0], one[1] + two[1], ("par", one[2], two[2]))
            rows, others = self.rows(4, repr(one)), self.rows(4, repr(two))
            first, second = self.told(one, rows), self.told(two, others)
            told = self.told(both, [a + b for a, b in zip(rows, others)])
            for at in range(4):
                if at >= min(len(first), len(second)) or None in (first[at], second[at]):
                    self.assertIsNone(told[-1])
                    self.assertEqual(len(told), at + 1)
                    seen[False] += 1
                    break
                (a, c), (b, d) = first[at], second[at]
                self.assertEqual(told[at], (a[:2] + b[:2] + a[2:] + b[2:], max(c, d)))
                seen[True] += 1
        self.assertGreater(min(seen.values()), 20)

    def test_what_does_the_same(self):
        for seed, prog in enumerate(PROGRAMS):
            rows = self.rows(4, seed)
            p, q, r = prog[2], PROGRAMS[seed - 1][2], PROGRAMS[seed - 2][2]
            for lot in ((p, ("seq", p, NOTHING), ("seq", NOTHING, p), ("par", p, NOTHING)), (("par", p, q), ("par", q, p)),
                        (("seq", ("seq", p, q), r), ("seq", p, ("seq", q, r)))):
                told = [self.told(prog[:2] + (body,), rows) for body in lot]
                self.assertEqual(told, told[:1] * len(told))

    def test_renamed(self):
        many = 0
        for seed, prog in enumerate(PROGRAMS):
            for path in plainwords.locals_of(prog[2]):
                other = prog[:2] + (renamed(prog[2], path, "zz"),)
                self.assertEqual(self.told(prog, self.rows(5, seed)), self.told(other, self.rows(5, seed)))
                many += 1
        self.assertGreater(many, 50)

    def test_raised_in_traps(self):
        for seed, prog in enumerate(PROGRAMS[:60]):
            body = ("trap", ("seq", raised(prog[2], 1), ("exit", 0)))
            self.assertEqual(self.told(prog, self.rows(5, seed)), self.told(prog[:2] + (body,), self.rows(5, seed)))
