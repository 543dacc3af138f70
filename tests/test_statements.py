import itertools

from restsure.errors import BadNumber, BadPath, BadProgram, BadRest, BadSignal, TooMany
from restsure.statements import (free_signals, is_program, is_rest, is_state, is_statement, plain_codes, raised,
                                 renamed, rest_at, rest_paths)
from tests import drawnwords, plainwords
from tests.contract import Contract
from tests.drawnwords import HAND, HAND_BODY, NOTHING, PAUSE, TWO_LOCALS, broad, chain
from tests.values import changed, deep, every_kind, with_lists

DRAWN = drawnwords.statements(250)
EVERY_FORM = [NOTHING, PAUSE, ("emit", "a"), ("if", "a", NOTHING, PAUSE), ("seq", PAUSE, ("emit", "b")),
              ("par", ("exit", 2), ("emit", "abcdefgh")), ("loop", ("seq", ("emit", "a"), PAUSE)),
              ("suspend", "a", PAUSE), ("trap", ("par", ("exit", 0), ("exit", 1))), ("exit", 0), ("exit", 20),
              ("local", "a", ("emit", "a")), ("hold", "b", ("seq", PAUSE, ("trap", ("exit", 3)))), HAND_BODY, TWO_LOCALS]


def program_like(body, names=("a", "b", "o")):
    return (names[:-1], names[-1:], body)


class IsStatement(Contract):
    def test_forms(self):
        for thing in EVERY_FORM + DRAWN:
            self.assertIs(self.kept(is_rest, ("thing",), (thing,)), True)
            self.assertIs(self.kept(is_statement, ("thing",), (thing,)), "hold" not in repr(thing))

    def test_values_of_every_kind(self):
        values = every_kind() + [(kind,) for kind in plainwords.FORMS] + [(kind, "a") for kind in plainwords.FORMS]
        values += [(kind, "a", PAUSE) for kind in plainwords.FORMS] + [(kind, PAUSE, PAUSE) for kind in plainwords.FORMS]
        values += [(kind, 0) for kind in plainwords.FORMS] + [(kind, PAUSE) for kind in plainwords.FORMS]
        values += [("hole",), ("run", "a", ()), ("Pause",), ("",), (("pause",),), "pause"]
        for function, right in ((is_statement, plainwords.statement), (is_rest, plainwords.rest)):
            told = self.judges(function, right, values)
            self.assertGreater(told[True], 6)

    def test_one_thing_otherwise(self):
        for thing in EVERY_FORM:
            for function, right in ((is_statement, plainwords.statement), (is_rest, plainwords.rest)):
                self.judges(function, right, list(changed(thing)))

    def test_lists_and_bools(self):
        for thing in EVERY_FORM:
            for depth in range(4):
                self.assertFalse(is_rest(with_lists(thing, depth)))
        self.assertFalse(is_statement(("exit", True)))
        self.assertFalse(is_statement(("trap", ("exit", False))))
        self.assertFalse(is_statement(["pause"]))
        self.assertFalse(is_statement(("seq", ["pause"], PAUSE)))

    def test_signals(self):
        for name in ("a", "z", "abcdefgh", "aa"):
            self.assertTrue(is_statement(("emit", name)))
        for name in ("", "abcdefghi", "A", "a1", "a b", "a\n", " a", "\u00e9", "\u0131", "\u00aa", "_", 0, None, ("a",), ["a"]):
            self.assertFalse(is_statement(("emit", name)), name)
            self.assertFalse(is_statement(("local", name, PAUSE)), name)
            self.assertFalse(is_statement(("if", name, PAUSE, PAUSE)), name)
            self.assertFalse(is_statement(("suspend", name, PAUSE)), name)
            self.assertFalse(is_rest(("hold", name, PAUSE)), name)

    def test_exits(self):
        for k in range(-2, 23):
            self.assertEqual(is_statement(("exit", k)), 0 <= k <= 20)

    def test_sizes(self):
        for function, most, levels in ((is_statement, 200, 40), (is_rest, 2000, 80)):
            self.assertTrue(function(chain(levels)))
            self.assertFalse(function(chain(levels + 1)))
            self.assertEqual(plainwords.size(broad(most), 80, False), most)
            self.assertTrue(function(broad(most)))
            self.assertFalse(function(broad(most + 1)))
            self.assertFalse(function(("par", broad(most), broad(most))))
        self.assertFalse(is_rest(deep(PAUSE, 120, lambda x: ("par", x, x))))
        self.assertFalse(is_statement(deep(PAUSE, 245, lambda x: ("seq", x, x))))
        self.assertFalse(is_rest(deep(PAUSE, 70, lambda x: ("par", x, x))))
        self.assertFalse(is_rest(deep(PAUSE, 245, lambda x: ("local", "a", x))))

    def test_loops_that_may_end_at_once(self):
        for body, good in ((PAUSE, True), (NOTHING, False), (("emit", "a"), False), (("if", "a", PAUSE, NOTHING), False),
                           (("if", "a", PAUSE, ("exit", 0)), True), (("par", NOTHING, PAUSE), True),
                           (("par", NOTHING, NOTHING), False), (("seq", NOTHING, PAUSE), True),
                           (("seq", PAUSE, NOTHING), True), (("trap", ("exit", 0)), False), (("trap", ("exit", 1)), True),
                           (("loop", PAUSE), True), (("suspend", "a", NOTHING), False), (("local", "a", NOTHING), False),
                           (("seq", ("if", "a", PAUSE, NOTHING), NOTHING), False), (("exit", 0), True)):
            self.assertEqual(is_statement(("loop", body)), good, body)
            self.assertEqual(is_rest(("loop", body)), good, body)
            self.assertEqual(is_rest(("hold", "a", ("trap", ("seq", PAUSE, ("loop", body))))), good, body)
            self.assertEqual(is_rest(("par", ("loop", body), ("loop", body))), good, body)
            self.assertEqual(is_rest(("seq", ("loop", body), ("loop", body))), good, body)
            # A hold may pause, but it still may end at once.
            self.assertEqual(is_rest(("loop", ("hold", "a", body))), good, body)


class Telling(Contract):
    def test_codes_signals_paths(self):
        for rest in EVERY_FORM + DRAWN:
            self.assertEqual(self.kept(plain_codes, ("rest",), (rest,)), sorted(plainwords.codes(rest)))
            self.assertEqual(self.kept(free_signals, ("rest",), (rest,)), sorted(plainwords.free(rest)))
            told = self.kept(rest_paths, ("rest",), (rest,))
            self.assertEqual(told, sorted(plainwords.paths(rest)))
            for path in told:
                self.assertEqual(rest_at(rest, path), plainwords.at(rest, path))

    def test_by_hand(self):
        self.assertEqual(plain_codes(("exit", 20)), [22])
        self.assertEqual(plain_codes(("trap", ("exit", 20))), [21])
        self.assertEqual(plain_codes(("par", ("if", "a", NOTHING, ("exit", 0)), ("if", "a", PAUSE, ("exit", 1)))), [1, 2, 3])
        self.assertEqual(plain_codes(("hold", "a", NOTHING)), [0, 1])
        self.assertEqual(plain_codes(("seq", ("if", "a", NOTHING, PAUSE), ("exit", 4))), [1, 6])
        self.assertEqual(plain_codes(("seq", PAUSE, ("exit", 4))), [1])
        self.assertEqual(plain_codes(("trap", ("if", "a", ("if", "b", NOTHING, PAUSE), ("if", "a", ("exit", 0), ("exit", 3))))), [0, 1, 4])
        self.assertEqual(free_signals(HAND_BODY), ["a", "o"])
        self.assertEqual(free_signals(TWO_LOCALS), ["o"])
        self.assertEqual(free_signals(("par", ("emit", "s"), ("local", "s", ("emit", "s")))), ["s"])
        self.assertEqual(free_signals(("local", "x", ("hold", "y", ("suspend", "z", ("if", "w", PAUSE, PAUSE))))), ["w", "y", "z"])
        self.assertEqual(free_signals(("local", "x", NOTHING)), [])
        self.assertEqual(rest_paths(NOTHING), [()])
        self.assertEqual(rest_paths(HAND_BODY), [(), (2,), (2, 1), (2, 1, 2), (2, 1, 3), (2, 2), (2, 2, 2), (2, 2, 3)])
        self.assertEqual(rest_at(HAND_BODY, (2, 1)), ("if", "s", ("emit", "o"), NOTHING))

    def test_great_ones(self):
        self.assertEqual(len(rest_paths(broad(2000))), 2000)
        deepest = rest_paths(chain(80))[-1]
        self.assertEqual(deepest, (1,) * 79)
        self.assertEqual(rest_at(chain(80), deepest), PAUSE)
        self.assertEqual(plain_codes(chain(80, ("exit", 20))), [0])

    def test_paths_that_lead_nowhere(self):
        for rest in EVERY_FORM + DRAWN[:40]:
            right = plainwords.paths(rest)
            for path in right:
                self.kept(rest_at, ("rest", "path"), (rest, path))
            near = [path + (more,) for path in right for more in range(-4, 5)]
            near += [path[:-1] + (path[-1] - 4,) for path in right if path] + [(1,) * 90, (2,) * 250]
            for path in near + every_kind():
                if repr(path) not in map(repr, right):
                    self.refuses(BadPath, rest_at, (rest, path))
        self.refuses(BadPath, rest_at, (("trap", PAUSE), (True,)))
        self.refuses(BadPath, rest_at, (("trap", PAUSE), [1]))
        self.refuses(BadPath, rest_at, (("trap", PAUSE), []))

    def test_wrong_rests(self):
        for rest in (HAND_BODY, EVERY_FORM[12]):
            for function, more in ((plain_codes, ()), (free_signals, ()), (rest_paths, ()), (rest_at, ((),)),
                                   (raised, (0,)), (renamed, ((), "zz"))):
                if function is not renamed or rest is HAND_BODY:
                    self.wrong_values(function, (rest,) + more, 0, BadRest, plainwords.rest, least=60)
        for function, more in ((plain_codes, ()), (rest_at, ((),)), (raised, (0,)), (renamed, ((), "zz"))):
            self.refuses(BadRest, function, (broad(2001),) + more)
            self.refuses(BadRest, function, (chain(81),) + more)
            self.refuses(BadRest, function, (("loop", NOTHING),) + more)
            self.refuses(BadRest, function, (None,) + more)
        self.first_error(rest_at, (HAND_BODY, ()), (BadRest, BadPath))


class Raising(Contract):
    def test_drawn(self):
        for rest in EVERY_FORM + DRAWN + drawnwords.statements(60, exits=6, start=900):
            for many in (0, 1, 3, 20):
                wanted = plainwords.raised(rest, many)
                if "exit" in repr(wanted) and any(thing[0] == "exit" and thing[1] > 20 for thing in
                                                  (plainwords.at(wanted, path) for path in plainwords.paths(wanted))):
                    with self.assertRaises(TooMany) as caught:
                        raised(rest, many)
                    self.assertEqual(caught.exception.most, 20)
                    continue
                self.assertEqual(self.kept(raised, ("rest", "many"), (rest, many)), wanted)

    def test_by_hand(self):
        rest = ("trap", ("par", ("exit", 0), ("seq", ("exit", 1), ("trap", ("par", ("exit", 1), ("exit", 2))))))
        self.assertEqual(raised(rest, 2), ("trap", ("par", ("exit", 0), ("seq", ("exit", 3), ("trap", ("par", ("exit", 1), ("exit", 4)))))))
        self.assertEqual(raised(("exit", 0), 20), ("exit", 20))
        self.refuses(TooMany, raised, (("exit", 1), 20))
        self.assertEqual(raised(("trap", ("exit", 0)), 20), ("trap", ("exit", 0)))
        self.refuses(TooMany, raised, (("trap", ("exit", 20)), 1))
        # Raised, it stands in many traps more as it did.
        for rest in DRAWN:
            for many in (1, 2):
                wrapped = raised(rest, many)
                for _ in range(many):
                    wrapped = ("trap", wrapped)
                if is_rest(wrapped):
                    self.assertEqual({c for c in plain_codes(wrapped) if c > 1}, {c for c in plain_codes(rest) if c > 1})

    def test_wrong_numbers(self):
        self.wrong_values(raised, (HAND_BODY, 3), 1, BadNumber, lambda x: type(x) is int and 0 <= x <= 20, least=100,
                          more=[21, -1, True, False, None, "1", (1,)])
        self.refuses(BadNumber, raised, (("exit", 20), 21))
        self.refuses(TooMany, raised, (("exit", 20), 20))
        self.first_error(raised, (HAND_BODY, 3), (BadRest, BadNumber))


class Renaming(Contract):
    def test_drawn(self):
        many = 0
        for rest in EVERY_FORM + DRAWN:
            for path in plainwords.paths(rest):
                if plainwords.at(rest, path)[0] != "local":
                    self.refuses(BadPath, renamed, (rest, path, "zz"))
                    continue
                told = self.kept(renamed, ("rest", "path", "signal"), (rest, path, "zz"))
                self.assertEqual(told, plainwords.renamed(rest, path, "zz"))
                self.assertEqual(free_signals(told), free_signals(rest))
                many += 1
        self.assertGreater(many, 100)

    def test_a_local_within_a_local_of_the_same_signal(self):
        self.assertEqual(renamed(TWO_LOCALS, (), "x"),
                         ("local", "x", ("par", ("emit", "x"), ("local", "s", ("if", "s", ("emit", "o"), PAUSE)))))
        self.assertEqual(renamed(TWO_LOCALS, (2, 2), "x"),
                         ("local", "s", ("par", ("emit", "s"), ("local", "x", ("if", "x", ("emit", "o"), PAUSE)))))
        rest = ("par", ("emit", "s"), ("local", "s", ("hold", "s", ("suspend", "s", ("local", "t", ("emit", "s"))))))
        self.assertEqual(renamed(rest, (2,), "u"),
                         ("par", ("emit", "s"), ("local", "u", ("hold", "u", ("suspend", "u", ("local", "t", ("emit", "u")))))))

    def test_wrong_ones(self):
        def is_local(path):
            return repr(path) in ("()", "(2, 2)")

        self.wrong_values(renamed, (TWO_LOCALS, (2, 2), "x"), 1, BadPath, is_local, least=100,
                          more=[(2, True), (2,), (2, 2, 2), [2, 2], (2, 2, 2, 2), (2, -1)])

        def is_new(name):
            return plainwords.signal(name) and name not in ("s", "o")

        self.wrong_values(renamed, (TWO_LOCALS, (), "x"), 2, BadSignal, is_new, least=100,
                          more=["s", "o", "", "abcdefghi", "X", ("x",), None])
        # A signal that stands anywhere in it, also as the name of a local alone.
        self.refuses(BadSignal, renamed, (("local", "s", ("local", "t", NOTHING)), (), "t"))
        self.refuses(BadSignal, renamed, (("par", ("local", "s", NOTHING), ("emit", "q")), (1,), "q"))
        self.first_error(renamed, (TWO_LOCALS, (), "x"), (BadRest, BadPath, BadSignal))


class ProgramsAndStates(Contract):
    def test_programs(self):
        values = every_kind() + list(changed(HAND)) + drawnwords.programs(60) + [with_lists(HAND, depth) for depth in range(5)]
        values += [program_like(thing) for thing in EVERY_FORM + DRAWN] + [((), (), PAUSE), ((), (), ("emit", "a"))]
        told = self.judges(lambda x: self.kept(is_program, ("thing",), (x,)), plainwords.program, values)
        self.assertGreater(told[True], 80)
        self.assertGreater(told[False], 200)

    def test_edges(self):
        eight = tuple("abcdefgh")
        self.assertTrue(is_program((eight, tuple("ijklmnop"), ("emit", "p"))))
        self.assertFalse(is_program((tuple("abcdefghi"), (), PAUSE)))
        self.assertFalse(is_program(((), tuple("abcdefghi"), PAUSE)))
        self.assertFalse(is_program((("a", "a"), (), PAUSE)))
        self.assertFalse(is_program((("a",), ("a",), PAUSE)))
        self.assertFalse(is_program(((), ("o", "o"), PAUSE)))
        self.assertFalse(is_program((["a"], (), PAUSE)))
        self.assertFalse(is_program((("a",), ["o"], PAUSE)))
        self.assertFalse(is_program([("a",), ("o",), PAUSE]))
        self.assertFalse(is_program((("a",), (), ("hold", "a", PAUSE))))
        self.assertFalse(is_program(((), (), ("exit", 0))))
        self.assertTrue(is_program(((), (), ("trap", ("exit", 0)))))
        self.assertFalse(is_program(((), (), ("trap", ("exit", 1)))))
        # An exit that leads out is none of a program's even where it never comes to be run.
        self.assertFalse(is_program(((), (), ("seq", PAUSE, ("exit", 0)))))
        self.assertTrue(is_program(((), (), broad(200))))
        self.assertFalse(is_program(((), (), broad(201))))
        self.assertTrue(is_program(((), (), chain(40))))
        self.assertFalse(is_program(((), (), chain(41))))
        self.assertFalse(is_program(((), (), None)))

    def test_states(self):
        for prog in (HAND, program_like(NOTHING), ((), (), PAUSE)):
            values = every_kind() + list(changed(HAND_BODY)) + EVERY_FORM + DRAWN[:80]
            values += [None, broad(2000), broad(2001), chain(80), chain(81), ("exit", 0), ("trap", ("exit", 0)),
                       ("trap", ("exit", 1)), ("hold", "a", PAUSE), ("local", "x", ("emit", "x")), ("emit", "x"), False]
            told = self.judges(lambda x: is_state(prog, x), lambda x: plainwords.state(prog, x), values)
            self.assertGreater(told[True], 10)
            for thing in (None, prog[2], "x", ("hold", "a", PAUSE)):
                self.kept(is_state, ("program", "thing"), (prog, thing))
        self.wrong_values(is_state, (HAND, None), 0, BadProgram, plainwords.program, least=100)
        self.wrong_values(is_state, (((), (), NOTHING), ()), 0, BadProgram, plainwords.program, least=60)
        for names in itertools.permutations(("a", "o")):
            self.assertTrue(is_state((names, (), PAUSE), ("hold", "a", ("emit", "o"))))
