import itertools
import random

from restsure.errors import BadCircuit, BadGiven, BadHeld, BadLot, TooMany
from restsure.lots import is_fair_loop, is_lot, live_branches, own_lots
from restsure.readings import is_whole, solutions, sure_readings
from restsure.rests import is_settling, rests, settles
from tests import drawn, plainly
from tests.contract import Contract
from tests.test_readings import CASE, bad_case, cases
from tests.values import changed, every_kind

SMALL = drawn.BY_HAND + drawn.lots_of(60) + drawn.lots_of(40, most_gates=5, most_sources=4)
NOT_LOOP = (0, (), (((("gate", 0),), drawn.NOT),), ())
LOOP = (((0,), ((0,),)), (("gate", 0), ("branch", 0, 0), ("gate", 0), ("branch", 0, 0)))
# A gate that reads itself by a live place and by one that never matters.
DEAD_PLACE = (0, (), (((("gate", 0), ("gate", 1)), (1, 0, 1, 0)), ((("gate", 1), ("gate", 0)), drawn.AND)), ())
# Three rings, one of which leans on the others; a tree behind them.
THREE = (0, (), drawn.ring(3, 1) + (((("gate", 4), ("gate", 0)), drawn.AND), ((("gate", 3),), drawn.SAME),
                                    ((("gate", 6),), drawn.NOT), ((("gate", 5),), drawn.NOT),
                                    ((("gate", 4), ("gate", 6), ("gate", 7)), (0, 1, 1, 0, 1, 0, 0, 1))), ())


def rest_circuits():
    """Circuits small enough to go through all standings, with rings of many kinds."""
    found = drawn.BY_HAND + drawn.lots_of(700, most_gates=3, most_sources=2, most_registers=1, most_inputs=1)
    found += [(0, (), drawn.ring(many, turns), ()) for many in (1, 2, 3, 4) for turns in range(many + 1)]
    return [circuit for circuit in found if len(plainly.elements(circuit)) <= 8]


class Live(Contract):
    def test_by_all_bits(self):
        for args in cases(SMALL, readings=False):
            live = plainly.live_places(*args)
            wanted = [("branch", gate, place) for gate in sorted(live) for place in live[gate]]
            self.assertEqual(self.kept(live_branches, CASE, args), wanted)
            # An unsure gate has a live place.
            self.assertTrue(all(live.values()))

    def test_by_hand(self):
        self.assertEqual(live_branches(drawn.EMPTY, (), ()), [])
        self.assertEqual(live_branches(drawn.SELF_AND, (0,), ()), [])
        self.assertEqual(live_branches(drawn.SELF_AND, (1,), ()), [("branch", 0, 1)])
        self.assertEqual(live_branches(drawn.TWICE, (), ()), [("branch", 0, 0), ("branch", 0, 1)])
        # Each place by itself, also where the same gate stands at both.
        self.assertEqual(live_branches(drawn.UNLIKE_BRANCHES, (), ())[1:], [("branch", 1, 0), ("branch", 1, 1)])
        self.assertEqual(live_branches(DEAD_PLACE, (), ()),
                         [("branch", 0, 0), ("branch", 1, 0), ("branch", 1, 1)])
        bad_case(self, live_branches, bits=True)


class Lots(Contract):
    def test_own_lots(self):
        many = 0
        for args in cases(SMALL, readings=False):
            told = self.kept(own_lots, CASE, args)
            self.assertEqual(told, plainly.own_lots(*args))
            self.assertEqual(told == [], is_whole(*args))
            gates = [gate for lot in told for gate in lot]
            self.assertEqual(len(gates), len(set(gates)))
            many = max(many, len(told))
        self.assertGreater(many, 1)

    def test_is_lot(self):
        yes = 0
        for args in cases(SMALL, readings=False):
            every = plainly.lots(*args)
            gates = range(len(args[0][2]))
            for size in range(len(gates) + 1):
                for lot in itertools.combinations(gates, size):
                    self.assertEqual(is_lot(*args, lot), lot in every)
            yes += len(every)
        self.assertGreater(yes, 100)
        for args in ((drawn.ODD_RING, (1,), ()), (THREE, (), ()), (NOT_LOOP, (), ())):
            lot = own_lots(*args)[-1]
            values = every_kind() + list(changed(lot)) + list(itertools.permutations(lot)) + [lot + lot]
            self.judges(lambda x: self.kept(is_lot, CASE + ("thing",), args + (x,)),
                        lambda x: plainly.is_lot(*args, x), values)
        self.assertFalse(is_lot(NOT_LOOP, (), (), (False,)))
        self.assertFalse(is_lot(NOT_LOOP, (), (), [0]))
        self.assertFalse(is_lot(NOT_LOOP, (), (), ()))

    def test_by_hand(self):
        self.assertEqual(own_lots(drawn.EVEN_FIRST, (0,), ()), [(0,)])
        self.assertEqual(own_lots(drawn.ODD_RING, (0,), ()), [(1, 2)])
        self.assertEqual(own_lots(DEAD_PLACE, (), ()), [(0,)])
        self.assertEqual(own_lots(THREE, (), ()), [(0, 1, 2), (5, 6)])
        self.assertTrue(is_lot(THREE, (), (), (0, 1, 2, 3, 4)))
        self.assertFalse(is_lot(THREE, (), (), (3, 4)))
        self.assertFalse(is_lot(THREE, (), (), (0, 1, 2, 6, 5)))
        self.assertEqual(own_lots((0, (), drawn.ring(2000, 0), ()), (), ()), [tuple(range(2000))])

    def test_wrong_ones(self):
        bad_case(self, own_lots, bits=True)
        bad_case(self, is_lot, ("x",), bits=True)
        args = (THREE, (), (), (5, 6), "x")
        self.wrong_values(is_fair_loop, args, 3, BadLot, lambda x: plainly.is_lot(THREE, (), (), x), least=100,
                          more=[(), (6, 5), (5, 5, 6), [5, 6], (3, 4), (False, 1, 2), (0, True, 2), (9,), (-1,)])
        self.wrong_values(is_fair_loop, args, 0, BadCircuit, plainly.circuit, least=150)
        self.first_error(is_fair_loop, args, (BadCircuit, BadGiven, BadHeld, BadLot, None))
        self.wrong_values(is_fair_loop, args, 1, BadGiven, lambda x: x == () and type(x) is tuple, least=50)
        self.wrong_values(is_fair_loop, args, 2, BadHeld, lambda x: x == () and type(x) is tuple, least=50)


class FairLoops(Contract):
    def test_one_thing_otherwise(self):
        for circuit, given, lot in ((NOT_LOOP, (), (0,)), (drawn.ODD_RING, (0,), (1, 2)), (drawn.TWICE, (), (0,))):
            loop = settles(circuit, given, ())[1][2]
            self.assertTrue(is_fair_loop(circuit, given, (), lot, loop))
            values = every_kind() + list(changed(loop)) + [loop, (loop[0], loop[1] * 3), (loop[0], loop[1][:-2])]
            told = self.judges(lambda x: is_fair_loop(circuit, given, (), lot, x),
                               lambda x: plainly.is_fair_loop(circuit, given, (), lot, x), values)
            self.assertGreater(told[True], 1)
            self.kept(is_fair_loop, CASE + ("lot", "thing"), (circuit, given, (), lot, loop))

    def test_drawn_loops(self):
        rng = random.Random(29)
        told = {True: 0, False: 0}
        for args in cases(SMALL, readings=False):
            for lot in plainly.lots(*args)[:4]:
                small, names = plainly.as_circuit(*args, lot)
                back = {there: name for name, there in names.items()}
                stand = tuple(rng.randint(0, 1) for _ in lot), tuple(
                    tuple(rng.randint(0, 1) for _ in row) for row, _ in small[2])
                steps, met, now = [], {}, stand
                for _ in range(40):
                    met.setdefault(now, len(steps))
                    loose = plainly.unsettled(small, (), (), now)
                    steps.append(rng.choice(loose if loose else plainly.elements(small)))
                    now = plainly.step(small, (), (), now, steps[-1])
                    if now in met:
                        loop = (now, tuple(back[x] for x in steps[met[now]:]))
                        verdict = is_fair_loop(*args, lot, loop)
                        self.assertEqual(verdict, plainly.is_fair_loop(*args, lot, loop))
                        told[verdict] += 1
        self.assertGreater(told[True], 20)
        self.assertGreater(told[False], 50)

    def test_edges(self):
        args = (NOT_LOOP, (), (), (0,))
        self.assertTrue(is_fair_loop(*args, LOOP))
        self.assertTrue(is_fair_loop(*args, (LOOP[0], LOOP[1] * 5000)))
        self.assertFalse(is_fair_loop(*args, (LOOP[0], LOOP[1] * 5000 + LOOP[1][:1])))
        self.assertFalse(is_fair_loop(*args, (LOOP[0], LOOP[1] * 5001)))
        # A loop of one step that changes something cannot lead back; one that changes nothing is none.
        self.assertFalse(is_fair_loop(*args, (LOOP[0], (("gate", 0),))))
        self.assertFalse(is_fair_loop(*args, (LOOP[0], (("branch", 0, 0),))))
        self.assertFalse(is_fair_loop(*args, (LOOP[0], ())))
        rest = ((1,), ((1,),))
        self.assertFalse(is_fair_loop(drawn.RAISES, (0,), (), (0,), (rest, (("gate", 0),))))
        filled = LOOP[1] * 4999 + (("gate", 0),) + LOOP[1][1:] + (("branch", 0, 0),)
        self.assertEqual(len(filled), 20001)
        self.assertFalse(is_fair_loop(*args, (LOOP[0], filled)))
        self.assertTrue(is_fair_loop(*args, (LOOP[0], filled[4:])))
        for bad in (list(LOOP), (LOOP[0], list(LOOP[1])), (LOOP[0], tuple(list(x) for x in LOOP[1])),
                    ([(0,), ((0,),)], LOOP[1]), (((False,), ((0,),)), LOOP[1]), (((0,), ((False,),)), LOOP[1]),
                    (LOOP[0], (("gate", False),) + LOOP[1][1:]), LOOP + ((),), LOOP[:1]):
            self.assertFalse(is_fair_loop(*args, bad), bad)

    def test_it_must_be_fair(self):
        # Two rings side by side: the lot of both wants both to be stepped.
        both = (0, (), NOT_LOOP[2] + (((("gate", 1),), drawn.SAME),), ())
        stand = ((0, 0), ((0,), (1,)))
        self.assertTrue(is_lot(both, (), (), (0, 1)))
        self.assertFalse(is_fair_loop(both, (), (), (0, 1), (stand, LOOP[1])))
        calm = ((0, 0), ((0,), (0,)))
        self.assertTrue(is_fair_loop(both, (), (), (0, 1), (calm, LOOP[1])))


class Rests(Contract):
    def test_drawn(self):
        for args in cases(SMALL, readings=False):
            told = self.kept(rests, CASE, args)
            self.assertEqual(told, solutions(*args))

    def test_edges(self):
        self.assertEqual(rests(drawn.EMPTY, (), ()), [()])
        self.assertEqual(rests((0, (), drawn.ring(12, 0), ()), (), ()), [(0,) * 12, (1,) * 12])
        many = drawn.wires(1000) + tuple(((("gate", 1000 + at),), drawn.SAME) for at in range(12))
        self.assertEqual(len(rests((0, (), many, ()), (), ())), 2 ** 12)
        for gates in (drawn.ring(13, 0), drawn.ring(2000, 1), many + (((("gate", 1012),), drawn.SAME),)):
            with self.assertRaises(TooMany) as caught:
                rests((0, (), gates, ()), (), ())
            self.assertEqual(caught.exception.most, 12)
        self.refuses(BadGiven, rests, ((0, (), drawn.ring(13, 0), ()), (0,), ()))
        self.refuses(BadHeld, rests, ((0, (), drawn.ring(13, 0), ()), (), (0,)))
        bad_case(self, rests, bits=True)


class Settling(Contract):
    def test_yes_exactly_if_all_fair_runs_come_to_one_rest(self):
        told = {"yes": 0, "no": 0}
        for args in cases(rest_circuits(), readings=False):
            word = settles(*args)[0]
            self.assertEqual(word == "yes", plainly.comes_to_one_rest(*args))
            self.assertEqual(word == "yes", is_whole(*args))
            told[word] += 1
        self.assertGreater(min(told.values()), 300)

    def test_what_is_told_shows_it(self):
        words = {}
        for args in cases(SMALL + drawn.lots_of(150, most_gates=6), readings=False):
            paper = self.kept(settles, CASE, args)
            self.assertTrue(is_settling(*args, paper))
            self.assertTrue(plainly.is_settling(*args, paper))
            self.assertIsInstance(paper, tuple)
            word = paper[0]
            if word == "yes":
                self.assertEqual(paper[1], max(plainly.laps(*args)[1], default=0))
            else:
                lot, word, shown = paper[1]
                if word == "loop":
                    self.assertLessEqual(len(shown[1]), 4 * len(lot))
                    self.assertTrue(is_fair_loop(*args, lot, shown))
                else:
                    self.assertEqual(len(lot), 1)
            words[word] = words.get(word, 0) + 1
        self.assertGreater(min(words.get(word, 0) for word in ("yes", "rests", "loop")), 10)

    def test_by_hand(self):
        self.assertEqual(settles(drawn.EVEN_FIRST, (0,), ()), ("no", ((0,), "rests", ((0,), (1,)))))
        self.assertTrue(is_settling(drawn.EVEN_FIRST, (0,), (), ("no", ((0,), "rests", ((1,), (0,))))))
        lot, word, _ = settles(drawn.ODD_RING, (0,), ())[1]
        self.assertEqual((lot, word), ((1, 2), "loop"))
        self.assertEqual(settles(drawn.EMPTY, (), ()), ("yes", 0))
        self.assertEqual(settles(drawn.SELF_AND, (0,), ()), ("yes", 1))
        self.assertEqual(settles(drawn.SELF_AND, (1,), ()), ("no", ((0,), "rests", ((0,), (1,)))))
        self.assertEqual(settles(drawn.TWICE, (), ())[1][:2], ((0,), "loop"))
        self.assertEqual(settles((0, (), drawn.wires(2000), ()), (), ()), ("yes", 2000))

    def test_rings_trees_and_great_ones(self):
        for many in (1, 2, 3, 5, 12, 1001, 1100, 2000):
            for turns in (0, 1, 2, 3):
                if turns <= many:
                    paper = settles((0, (), drawn.ring(many, turns), ()), (), ())
                    self.assertTrue(is_settling((0, (), drawn.ring(many, turns), ()), (), (), paper))
                    lot, word, shown = paper[1]
                    self.assertEqual(lot, tuple(range(many)))
                    self.assertEqual(word, "rests" if many == 1 and turns == 0 else "loop")
                    if word == "loop":
                        self.assertLessEqual(len(shown[1]), 4 * many)
        # A ring with chords that make a tree of all else: all of it is one lot.
        rng = random.Random(31)
        for many in (3, 10, 300, 2000):
            rows = [((("gate", (at + 1) % many), ("gate", rng.randrange(many))), rng.choice((drawn.AND, drawn.OR, (1, 0, 0, 0), drawn.UNLIKE)))
                    for at in range(many)]
            circuit = (0, (), tuple(rows), ())
            paper = settles(circuit, (), ())
            self.assertTrue(is_settling(circuit, (), (), paper))
            self.assertLessEqual(len(paper[1][2][1]), 4 * len(paper[1][0]))
        # All gates read the first one, which reads the last one: a star, and a long tree behind a short ring.
        star = tuple([((("gate", 1999), ("gate", 1)), drawn.AND)] + [((("gate", 0),), drawn.NOT)] * 1999)
        tree = tuple([((("gate", 0), ("gate", 1999)), drawn.UNLIKE)] + [((("gate", at),), drawn.NOT) for at in range(1999)])
        for gates in (star, tree):
            paper = settles((0, (), gates, ()), (), ())
            self.assertTrue(is_settling((0, (), gates, ()), (), (), paper))
            self.assertLessEqual(len(paper[1][2][1]), 4 * len(paper[1][0]))

    def test_judging(self):
        for args in ((drawn.EVEN_FIRST, (0,), ()), (drawn.ODD_RING, (0,), ()), (drawn.SELF_AND, (0,), ()),
                     (NOT_LOOP, (), ()), (drawn.EMPTY, (), ()), (drawn.COUNTER, (0, 1), (1, 1)),
                     (drawn.UNLIKE_BRANCHES, (), ())):
            paper = settles(*args)
            values = every_kind() + list(changed(paper)) + [paper, list(paper), ("yes", 1), ("yes", True), ("no", 0)]
            values += [("yes", False), ("yes", 0), ("yes", 2), ("no", paper), ("no", ((0,), "rests", ((0,), (0,))))]
            values += [("no", (lot, "rests", both)) for lot in plainly.lots(*args)
                       for both in itertools.product(plainly.all_bits(len(lot)), repeat=2)]
            told = self.judges(lambda x: self.kept(is_settling, CASE + ("thing",), args + (x,)),
                               lambda x: plainly.is_settling(*args, x), values)
            self.assertGreater(told[True], 0)

    def test_rests_and_loops_of_greater_lots(self):
        # Two gates that only raise themselves: four rests, of which any two do.
        both = (0, (), (((("gate", 0),), drawn.SAME), ((("gate", 1),), drawn.SAME)), ())
        for one, other in itertools.product(plainly.all_bits(2), repeat=2):
            self.assertEqual(is_settling(both, (), (), ("no", ((0, 1), "rests", (one, other)))), one != other)
        self.assertFalse(is_settling(both, (), (), ("no", ((0, 1), "rests", [(0, 0), (1, 1)]))))
        self.assertFalse(is_settling(both, (), (), ("no", ((0, 1), "rests", ((0, False), (1, 1))))))
        loop = (LOOP[0], LOOP[1] * 5000)
        self.assertTrue(is_settling(NOT_LOOP, (), (), ("no", ((0,), "loop", loop))))
        self.assertFalse(is_settling(NOT_LOOP, (), (), ("no", ((0,), "loop", (LOOP[0], LOOP[1] * 5001)))))
        self.assertFalse(is_settling(drawn.SELF_AND, (0,), (), ("no", ((0,), "rests", ((0,), (1,))))))
        self.assertTrue(None in sure_readings(NOT_LOOP, (), ()))

    def test_wrong_cases(self):
        bad_case(self, settles, bits=True)
        bad_case(self, is_settling, ("x",), bits=True)
