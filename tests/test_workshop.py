import random

from restsure.errors import BadModule, BadName, Caught, Missing, NotFitting, NotHere, NotProgram, NothingDone, NothingUndone, RestError
from restsure.errors import Ring, TooMany
from restsure.statements import is_program
from restsure.workshop import Workshop
from tests import drawnprograms, drawnwords, plainshop, plainwords
from tests.contract import Contract, containers, spoil
from tests.drawnprograms import clock, clock_states, in_row
from tests.drawnwords import NOTHING, PAUSE
from tests.values import changed, every_kind

NAMES = ("k", "l", "m", "n")
EMIT = ("emit", "o")
UNSURE = ("if", "o", EMIT, NOTHING)


def run(m, **pairs):
    return ("run", m, tuple(sorted(pairs.items())))


def chain_of(many):
    """Names of modules, each of which runs the next one twice."""
    return ["m" + "abcdefghijklmnopqrstuvwxyz"[at // 26] + "abcdefghijklmnopqrstuvwxyz"[at % 26] for at in range(many)]


def drawn_body(rng, names, parts, near):
    """An open statement of such signals, with runs in it."""
    body = drawnwords.draw(rng, parts, names, False, exits=0)

    def exchange(thing, inner):
        if thing[0] in ("pause", "nothing", "exit") and rng.random() < 0.5 and near:
            firsts = rng.choice((("a", "o"), ("a", "o"), ("a", "o"), ("a",), ()))
            return ("run", rng.choice(near), tuple((first, rng.choice(inner)) for first in firsts))
        if thing[0] == "local":
            inner = inner + (thing[1],)
        return tuple(exchange(kid, inner) if type(kid) is tuple else kid for kid in thing)
    return exchange(body, names)


class Shop(Contract):
    def raised(self, shop, name, args=()):
        """What a method tells, or its error with its attributes."""
        try:
            return getattr(shop, name)(*args)
        except RestError as error:
            return type(error).__name__, vars(error)

    def told(self, shop):
        """All that is told of it without a look."""
        return shop.modules(), shop.missing(), shop.looks()

    def fails(self, error, method, *args):
        with self.assertRaises(error) as caught:
            method(*args)
        self.assertIs(type(caught.exception), error)
        return list(vars(caught.exception).values())

    def filled(self, modules):
        shop = Workshop()
        for name, row in modules.items():
            shop.put(name, *row)
        return shop

    def drawn_deed(self, rng):
        name = rng.choice(["put"] * 7 + ["drop", "undo", "undo", "redo", "look", "look", "standing", "standing", "program"])
        if name == "put":
            return self.drawn_put(rng, NAMES, NAMES)
        return name, (rng.choice(NAMES),) if name in ("drop", "look", "program") else ()

    def drawn_put(self, rng, names, near):
        """A put of one of these names, whose module runs some of those near by."""
        inputs = rng.choice([("a",)] * 8 + [(), ("b",)])
        outputs = ("o",)
        body = drawn_body(rng, inputs + outputs, rng.randint(1, 6), near)
        if rng.random() < 0.3:
            body = ("local", rng.choice("as"), ("par", body, EMIT))
        if rng.random() < 0.2 and near:
            body = ("local", "s", ("run", rng.choice(near), tuple((first, rng.choice(("s", "o"))) for first in ("a", "o"))))
        return "put", (rng.choice(names), inputs, outputs, body)


class Deeds(Shop):
    def test_drawn_deeds(self):
        words = {}
        for seed in range(220):
            rng = random.Random(seed)
            shop, plain = Workshop(), plainshop.PlainShop()
            # Most of them have all names at first, and no rings.
            deeds = [self.drawn_put(rng, NAMES[at:at + 1], NAMES[at + 1:]) for at in range(rng.choice((0, 4, 4)))]
            for name, args in deeds + [self.drawn_deed(rng) for _ in range(rng.randint(5, 22))]:
                one, other = self.raised(shop, name, args), self.raised(plain, name, args)
                self.assertEqual(repr(one), repr(other), (seed, name, args))
                self.assertEqual(repr(self.told(shop)), repr(self.told(plain)))
                word = one[0] if isinstance(one, tuple) and len(one) == 2 else None
                if isinstance(word, str) and name != "program":
                    words[word] = words.get(word, 0) + 1
                for word in one.values() if name == "standing" and isinstance(one, dict) else ():
                    words[word] = words.get(word, 0) + 1
        for word in ("sure", "unsure", "missing", "ring", "unfit", "caught", "wrong", "NotHere", "NothingDone", "NothingUndone",
                     "Missing", "Ring", "NotFitting", "Caught", "NotProgram"):
            self.assertGreaterEqual(words.get(word, 0), 3, word)

    def test_undo_and_redo(self):
        shop = Workshop()
        self.fails(NothingDone, shop.undo)
        self.fails(NothingUndone, shop.redo)
        self.assertIsNone(shop.put("m", (), ("o",), EMIT))
        first = shop.modules()
        shop.put("m", (), ("o",), PAUSE)
        shop.put("k", (), (), NOTHING)
        self.assertEqual(list(shop.modules()), ["k", "m"])
        self.assertIsNone(shop.undo())
        self.assertIsNone(shop.undo())
        self.assertEqual(shop.modules(), first)
        self.assertIsNone(shop.redo())
        self.assertEqual(shop.modules(), {"m": ((), ("o",), PAUSE)})
        self.assertIsNone(shop.drop("m"))
        # A new deed forgets what was taken back.
        self.fails(NothingUndone, shop.redo)
        self.assertEqual(shop.modules(), {})
        for _ in range(3):
            shop.undo()
        self.fails(NothingDone, shop.undo)
        self.assertEqual(shop.modules(), {})
        for _ in range(3):
            shop.redo()
        self.fails(NothingUndone, shop.redo)
        self.assertEqual(shop.modules(), {})

    def test_what_raises_changes_nothing(self):
        shop = Workshop()
        shop.put("m", (), ("o",), EMIT)
        shop.put("m", (), ("o",), UNSURE)
        shop.undo()
        before = self.told(shop)
        self.fails(BadName, shop.put, "M", (), (), PAUSE)
        self.fails(BadModule, shop.put, "m", (), (), EMIT)
        self.fails(NotHere, shop.drop, "k")
        self.fails(BadName, shop.drop, 1)
        self.fails(NotHere, shop.look, "k")
        self.fails(NotHere, shop.program, "k")
        self.assertEqual(self.told(shop), before)
        # Neither what may be undone nor what may be done again.
        shop.redo()
        self.assertEqual(shop.modules(), {"m": ((), ("o",), UNSURE)})
        self.fails(NothingUndone, shop.redo)
        shop.undo()
        shop.undo()
        self.fails(NothingDone, shop.undo)
        self.assertEqual(shop.modules(), {})

    def test_a_deed_that_changes_nothing_is_one(self):
        shop = Workshop()
        shop.put("m", (), (), PAUSE)
        shop.put("m", (), (), PAUSE)
        shop.undo()
        self.assertEqual(list(shop.modules()), ["m"])
        shop.undo()
        self.assertEqual(shop.modules(), {})

    def test_forty_modules(self):
        shop = Workshop()
        names = chain_of(41)
        for name in names[:40]:
            shop.put(name, (), (), PAUSE)
        self.assertEqual(list(shop.modules()), names[:40])
        self.assertEqual(self.fails(TooMany, shop.put, names[40], (), (), PAUSE), [40])
        shop.put(names[7], (), (), NOTHING)
        self.assertEqual(shop.modules()[names[7]], ((), (), NOTHING))
        self.fails(BadModule, shop.put, names[40], (), (), EMIT)
        shop.drop(names[0])
        shop.put(names[40], (), (), PAUSE)
        self.assertEqual(list(shop.modules()), names[1:])
        self.assertEqual(set(shop.standing().values()), {"sure"})
        self.assertEqual(shop.looks(), tuple(names[1:]))
        self.assertEqual(self.fails(TooMany, shop.put, names[0], (), (), PAUSE), [40])
        shop.undo()
        self.assertEqual(len(shop.modules()), 39)

    def test_what_is_told_is_new(self):
        shop = self.filled({"m": (("a",), ("o",), run("k", a="a", o="o")), "l": ((), (), PAUSE)})
        for name in ("modules", "missing", "standing", "looks"):
            one, other = getattr(shop, name)(), getattr(shop, name)()
            self.assertEqual(one, other)
            self.assertFalse(containers(one) & containers(other))
            spoil(one)
            self.assertEqual(getattr(shop, name)(), other)
        self.assertEqual(shop.missing(), ["k"])

    def test_by_name(self):
        shop = Workshop()
        self.assertIsNone(shop.put(body=EMIT, outputs=("o",), inputs=(), m="m"))
        self.assertEqual(shop.program(m="m"), ((), ("o",), EMIT))
        self.assertEqual(shop.look(m="m"), ("sure", 2))
        self.assertIsNone(shop.drop(m="m"))


class Modules(Shop):
    def test_what_is_a_module(self):
        shop = Workshop()
        good = (("a",), ("o",), ("seq", run("k", x="a", y="o"), ("local", "s", ("par", ("loop", NOTHING), ("if", "s", ("exit", 20), run("m", z="s"))))))
        told = {True: 0, False: 0}
        values = list(changed(good)) + [(value,) + good[1:] for value in every_kind()] + [good[:1] + (value, good[2]) for value in every_kind()]
        values += [good[:2] + (value,) for value in every_kind()]
        for value in values:
            if type(value) not in (tuple, list) or len(value) != 3:
                continue
            right = plainshop.module(*value)
            if right:
                shop.put("m", *value)
                self.assertEqual(repr(shop.modules()["m"]), repr(tuple(value)))
            else:
                self.fails(BadModule, shop.put, "m", *value)
            told[right] += 1
        self.assertGreater(told[False], 400)
        self.assertGreater(told[True], 20)

    def test_names(self):
        shop = Workshop()
        for value in every_kind() + ["M", "m1", "", "abcdefghi", "\u00e9"]:
            if not plainwords.signal(value):
                self.fails(BadName, shop.put, value, (), (), PAUSE)
                self.fails(BadName, shop.put, value, 1, 2, 3)
                for method in (shop.drop, shop.program, shop.look):
                    self.fails(BadName, method, value)
        self.assertEqual(shop.modules(), {})
        self.fails(BadModule, shop.put, "m", 1, 2, 3)
        self.fails(NotHere, shop.drop, "m")

    def test_runs(self):
        shop = Workshop()
        pairs = tuple((name, "a") for name in "abcdefghijklmnopq")
        for body, right in ((("run", "m", pairs[:16]), True), (("run", "m", pairs), False), (("run", "m", ()), True), (("run", "m", []), False),
                            (("run", "M", ()), False), (("run", "m"), False), (("run", "m", (("b", "a"), ("a", "a"))), False),
                            (("run", "m", (("a", "a"), ("a", "a"))), False), (("run", "m", (["a", "a"],)), False), (("run", "m", (("A", "a"),)), False),
                            (("run", "m", ((1, "a"),)), False), (("run", "m", (("abcdefghi", "a"),)), False), (("run", "m", (("a", "a", "a"),)), False), (("run", "m", (("a", "z"),)), False),
                            (("local", "z", ("run", "m", (("a", "z"),))), True), (("run", "m", (("z", "a"),)), True), (("hole",), False),
                            (("hold", "a", PAUSE), False), (("loop", NOTHING), True), (("loop", ("run", "m", ())), True), (("exit", 20), True)):
            if right:
                shop.put("m", ("a",), (), body)
            else:
                self.fails(BadModule, shop.put, "m", ("a",), (), body)

    def test_sizes(self):
        shop = Workshop()
        for many in (200, 201):
            for wide in (drawnwords.broad(many), self.with_runs(drawnwords.broad(many))):
                if many == 200:
                    shop.put("m", (), (), wide)
                else:
                    self.fails(BadModule, shop.put, "m", (), (), wide)
        shop.put("m", (), (), drawnwords.chain(40))
        shop.put("m", (), (), drawnwords.chain(40, run("m")))
        self.fails(BadModule, shop.put, "m", (), (), drawnwords.chain(41, run("m")))
        eight = tuple("abcdefgh")
        shop.put("m", eight, tuple("ijklmnop"), PAUSE)
        self.fails(BadModule, shop.put, "m", eight + ("i",), (), PAUSE)
        self.fails(BadModule, shop.put, "m", ("a",), ("a",), PAUSE)
        self.fails(BadModule, shop.put, "m", ("a", "a"), (), PAUSE)

    def with_runs(self, whole):
        if whole == PAUSE:
            return run("k")
        return tuple(self.with_runs(kid) if type(kid) is tuple else kid for kid in whole)


class Programs(Shop):
    def test_expanded(self):
        shop = self.filled({"m": (("a",), ("o",), in_row(run("k", x="a", y="o"), PAUSE, run("k", x="o", y="a"))),
                            "k": (("x",), ("y",), ("local", "s", ("seq", run("l", i="x", j="s"), ("if", "s", ("emit", "y"), NOTHING)))),
                            "l": (("i",), ("j",), ("trap", ("par", ("exit", 0), ("if", "i", ("emit", "j"), PAUSE))))})

        def inner(x, y):
            return ("local", "s", ("seq", ("trap", ("par", ("exit", 0), ("if", x, ("emit", "s"), PAUSE))), ("if", "s", ("emit", y), NOTHING)))
        wanted = (("a",), ("o",), in_row(inner("a", "o"), PAUSE, inner("o", "a")))
        self.assertEqual(shop.program("m"), wanted)
        self.assertTrue(is_program(wanted))
        self.assertEqual(shop.look("m")[0], "sure")
        self.assertEqual(shop.missing(), [])
        # A signal may be passed twice, and to what is a local there.
        shop.put("m", ("a",), (), ("local", "t", run("k", x="t", y="t")))
        self.assertEqual(shop.program("m"), (("a",), (), ("local", "t", inner("t", "t"))))

    def test_missing(self):
        shop = self.filled({"m": ((), (), ("par", run("z"), ("par", run("k"), run("y")))), "k": ((), (), run("x"))})
        self.assertEqual(self.fails(Missing, shop.program, "m"), ["x"])
        self.assertEqual(self.fails(Missing, shop.look, "k"), ["x"])
        self.assertEqual(shop.missing(), ["x", "y", "z"])
        self.assertEqual(shop.standing(), {"k": "missing", "m": "missing"})
        shop.put("x", (), (), run("m"))
        self.assertEqual(self.fails(Missing, shop.program, "k"), ["y"])

    def test_rings(self):
        shop = self.filled({"a": ((), (), run("c")), "c": ((), (), run("d")), "d": ((), (), ("seq", run("b"), run("c"))), "b": ((), (), run("b")),
                            "e": ((), (), PAUSE)})
        self.assertEqual(self.fails(Ring, shop.program, "a"), ["b"])
        shop.put("b", (), (), PAUSE)
        self.assertEqual(self.fails(Ring, shop.program, "a"), ["c"])
        self.assertEqual(shop.standing(), {"a": "ring", "b": "sure", "c": "ring", "d": "ring", "e": "sure"})
        # A run that does not fit is told behind a ring.
        shop.put("a", ("q",), (), ("seq", run("c", z="q"), run("e", z="q")))
        self.assertEqual(self.fails(Ring, shop.program, "a"), ["c"])
        shop.put("a", ("q",), (), ("seq", run("a", z="q"), run("zz", z="q")))
        self.assertEqual(self.fails(Missing, shop.program, "a"), ["zz"])

    def test_runs_that_do_not_fit(self):
        shop = self.filled({"m": ((), (), ("seq", run("k"), run("l"))), "k": ((), (), run("l")), "l": (("a",), (), PAUSE)})
        self.assertEqual(self.fails(NotFitting, shop.program, "m"), ["k"])
        shop.put("k", (), (), PAUSE)
        self.assertEqual(self.fails(NotFitting, shop.program, "m"), ["m"])
        self.assertEqual(shop.standing(), {"k": "sure", "l": "sure", "m": "unfit"})
        for inputs, outputs, fits in ((("a",), ("o",), True), (("o", "a"), (), True), ((), ("a", "o"), True), (("a",), (), False), (("a", "o"), ("b",), False)):
            shop.put("l", inputs, outputs, PAUSE)
            shop.put("m", ("x",), (), run("l", a="x", o="x"))
            if fits:
                self.assertEqual(shop.program("m"), (("x",), (), PAUSE))
            else:
                self.assertEqual(self.fails(NotFitting, shop.program, "m"), ["m"])

    def test_too_great(self):
        names = chain_of(40)
        shop = Workshop()
        for at, name in enumerate(names):
            shop.put(name, (), (), PAUSE if at == 39 else ("seq", run(names[at + 1]), run(names[at + 1])))
        # 1, 3, 7, .. statements; those at the beginning have more than can be counted by hand.
        for at, right in ((39, True), (33, True), (32, False), (0, False)):
            if right:
                self.assertEqual(plainwords.size(shop.program(names[at])[2], 40, False), 2 ** (40 - at) - 1)
            else:
                self.fails(NotProgram, shop.program, names[at])
        told = shop.standing()
        self.assertEqual([told[name] for name in names], ["wrong"] * 33 + ["sure"] * 7)
        # More than 200 statements are told ahead of what is caught.
        shop.put(names[39], ("x",), (), ("local", "y", ("emit", "x")))
        shop.put(names[38], ("y",), (), run(names[39], x="y"))
        self.assertEqual(self.fails(Caught, shop.program, names[38]), ["y"])
        shop.put(names[38], ("y",), (), ("par", drawnwords.broad(197), run(names[39], x="y")))
        self.assertEqual(self.fails(Caught, shop.program, names[38]), ["y"])
        shop.put(names[38], ("y",), (), ("par", drawnwords.broad(198), run(names[39], x="y")))
        self.fails(NotProgram, shop.program, names[38])

    def test_caught(self):
        shop = self.filled({"m": (("a", "b"), (), ("par", run("k", x="b"), run("k", x="a"))),
                            "k": (("x",), (), ("local", "a", ("par", ("local", "b", ("emit", "x")), ("local", "x", ("emit", "x")))))})
        self.assertEqual(self.fails(Caught, shop.program, "m"), ["a"])
        self.assertEqual(shop.standing(), {"k": "sure", "m": "caught"})
        shop.put("m", ("a", "b"), (), run("k", x="b"))
        self.assertEqual(self.fails(Caught, shop.program, "m"), ["b"])
        shop.put("m", ("a", "b", "c"), (), run("k", x="c"))
        self.assertTrue(is_program(shop.program("m")))
        # A local where the signal does not stand catches nothing.
        shop.put("k", ("x",), (), ("par", ("local", "a", PAUSE), ("emit", "x")))
        shop.put("m", ("a",), (), run("k", x="a"))
        self.assertEqual(shop.program("m"), (("a",), (), ("par", ("local", "a", PAUSE), ("emit", "a"))))
        # A local around the run is meant by what is passed.
        shop.put("m", (), (), ("local", "a", run("k", x="a")))
        self.assertEqual(shop.program("m"), ((), (), ("local", "a", ("par", ("local", "a", PAUSE), ("emit", "a")))))
        # Deeper down, through two runs, and if nothing leads to it from m.
        shop.put("l", ("z",), (), run("k", x="z"))
        shop.put("k", ("x",), (), ("local", "q", ("suspend", "x", PAUSE)))
        shop.put("m", ("q",), (), run("l", z="q"))
        self.assertEqual(self.fails(Caught, shop.program, "m"), ["q"])
        self.assertEqual(shop.standing(), {"k": "sure", "l": "sure", "m": "caught"})
        shop.put("k", ("x",), (), ("local", "q", ("if", "x", PAUSE, NOTHING)))
        self.assertEqual(self.fails(Caught, shop.program, "m"), ["q"])

    def test_what_comes_is_no_program(self):
        shop = self.filled({"m": ((), (), ("loop", run("k"))), "k": ((), (), NOTHING)})
        self.fails(NotProgram, shop.program, "m")
        self.assertEqual(shop.standing(), {"k": "sure", "m": "wrong"})
        shop.put("k", (), (), PAUSE)
        self.assertEqual(shop.program("m"), ((), (), ("loop", PAUSE)))
        shop.put("k", (), (), ("exit", 0))
        self.fails(NotProgram, shop.program, "k")
        self.fails(NotProgram, shop.program, "m")
        shop.put("m", (), (), ("trap", ("loop", run("k"))))
        self.assertEqual(shop.program("m"), ((), (), ("trap", ("loop", ("exit", 0)))))
        # More than 40 levels come.
        shop.put("k", (), (), drawnwords.chain(39))
        shop.put("m", (), (), ("trap", run("k")))
        self.assertEqual(shop.program("m"), ((), (), drawnwords.chain(40)))
        shop.put("m", (), (), ("trap", ("trap", run("k"))))
        self.fails(NotProgram, shop.program, "m")
        shop.put("l", (), (), ("seq", run("m"), run("m")))
        self.fails(NotProgram, shop.program, "l")

    def test_not_here(self):
        shop = Workshop()
        self.fails(NotHere, shop.program, "m")
        shop.put("m", (), (), PAUSE)
        shop.undo()
        self.fails(NotHere, shop.look, "m")


class Looks(Shop):
    def test_what_is_looked_at_anew(self):
        shop = self.filled({"m": ((), ("o",), run("k", x="o")), "k": ((), ("x",), ("emit", "x")), "l": ((), ("o",), UNSURE)})
        self.assertEqual(shop.looks(), ())
        self.assertEqual(shop.look("m"), ("sure", 2))
        self.assertEqual(shop.look("m"), ("sure", 2))
        self.assertEqual(shop.looks(), ("m",))
        self.assertEqual(shop.standing(), {"k": "sure", "l": "unsure", "m": "sure"})
        self.assertEqual(shop.looks(), ("m", "k", "l"))
        self.assertEqual(shop.look("l"), ("unsure", ((),)))
        # The module is as it was, but its program is not.
        shop.put("k", (), ("x",), ("seq", PAUSE, ("emit", "x")))
        self.assertEqual(shop.look("m"), ("sure", 3))
        self.assertEqual(shop.looks(), ("m", "k", "l", "m"))
        # The module is another one, but its program is as it was.
        shop.put("m", (), ("o",), ("seq", PAUSE, EMIT))
        self.assertEqual(shop.look("m"), ("sure", 3))
        self.assertEqual(shop.looks(), ("m", "k", "l", "m"))
        # What was looked at before the last look does not count.
        shop.undo()
        shop.undo()
        self.assertEqual(shop.standing(), {"k": "sure", "l": "unsure", "m": "sure"})
        self.assertEqual(shop.looks(), ("m", "k", "l", "m", "m"))
        # What was dropped and put again is as it was.
        row = shop.modules()["l"]
        shop.drop("l")
        shop.put("l", *row)
        shop.look("l")
        self.assertEqual(shop.looks(), ("m", "k", "l", "m", "m"))
        # Inputs or outputs alone.
        shop.put("l", ("a",), ("o",), UNSURE)
        self.assertEqual(shop.look("l"), ("unsure", ((0,),)))
        shop.put("l", ("o",), (), UNSURE)
        self.assertEqual(shop.look("l"), ("unsure", ((0,),)))
        self.assertEqual(shop.looks(), ("m", "k", "l", "m", "m", "l", "l"))

    def test_what_is_told_of_drawn_programs(self):
        shop = Workshop()
        told = {}
        for prog in drawnprograms.small_inputs(60) + drawnprograms.whirls(12):
            shop.put("m", *prog)
            plain = plainshop.PlainShop()
            plain.put("m", *prog)
            told_now = shop.look("m")
            self.assertEqual(repr(told_now), repr(plain.look("m")))
            told[told_now[0]] = told.get(told_now[0], 0) + 1
        self.assertGreater(min(told.values()), 10)
        self.assertEqual(len(told), 2)

    def test_too_many(self):
        great = clock(0, 3, 4, 5, 7)
        self.assertGreater(clock_states(0, 3, 4, 5, 7), 200)
        shop = self.filled({"z": ((), (), PAUSE), "a": ((), (), NOTHING), "m": ((), (), great), "n": ((), (), run("m")), "b": ((), (), run("x"))})
        self.assertEqual(self.fails(TooMany, shop.look, "m"), [200])
        self.assertEqual(shop.looks(), ())
        self.assertEqual(self.fails(TooMany, shop.standing), [200])
        self.assertEqual(shop.looks(), ("a",))
        self.assertEqual(self.fails(TooMany, shop.look, "n"), [200])
        self.assertEqual(self.fails(TooMany, shop.standing), [200])
        self.assertEqual(shop.looks(), ("a",))
        before = shop.modules()
        shop.put("m", (), (), clock(7, 3, 4, 5))
        self.assertEqual(shop.look("m"), ("sure", clock_states(7, 3, 4, 5)))
        self.assertEqual(shop.standing(), {"a": "sure", "b": "missing", "m": "sure", "n": "sure", "z": "sure"})
        self.assertEqual(shop.looks(), ("a", "m", "n", "z"))
        # What was found of the last one that could be told stays.
        shop.undo()
        self.assertEqual(shop.modules(), before)
        self.fails(TooMany, shop.look, "m")
        shop.redo()
        shop.look("m")
        self.assertEqual(shop.looks(), ("a", "m", "n", "z"))

    def test_against_a_new_workshop(self):
        # HEART: all is as in a new workshop with the same modules, whatever the order in which they were put.
        for seed in range(60):
            rng = random.Random(1000 + seed)
            shop = Workshop()
            for _ in range(12):
                self.raised(shop, *self.drawn_deed(rng))
            rows = list(shop.modules().items())
            rng.shuffle(rows)
            other = self.filled(dict(rows))
            self.assertEqual(shop.modules(), other.modules())
            self.assertEqual(list(shop.modules()), sorted(dict(rows)))
            self.assertEqual(shop.missing(), other.missing())
            self.assertEqual(shop.standing(), other.standing())
            for name in NAMES:
                self.assertEqual(repr(self.raised(shop, "look", (name,))), repr(self.raised(other, "look", (name,))))
                self.assertEqual(repr(self.raised(shop, "program", (name,))), repr(self.raised(other, "program", (name,))))
