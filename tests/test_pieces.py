import random

from restsure.errors import BadGiven, BadPiece, BadRun, BadSignals, BadStanding, BadStatement, BadSurroundings, TooMany, Unlike
from restsure.instants import react
from restsure.pieces import classes, is_piece, is_pieces_pairing, is_surroundings, piece_reading, piece_settled, pieces_pairing, put_in
from restsure.statements import is_program
from tests import drawnpieces, drawnwords, plainly, plainparts, plainwords
from tests.contract import Contract
from tests.drawnpieces import EMITS_ITSELF, GOES_OUT, MAY_PAUSE, draw_body, draw_names
from tests.drawnwords import NOTHING, PAUSE
from tests.values import changed, every_kind

AB = ("a", "b")
SMALL = (AB, ("seq", PAUSE, ("if", "a", ("emit", "b"), ("exit", 1))))


class IsPiece(Contract):
    def judged(self, values):
        return self.judges(is_piece, plainparts.piece, values)

    def test_drawn(self):
        found = drawnpieces.pieces(300)
        self.assertEqual(self.judged(found)[True], 300)
        for piece in found[:60]:
            self.judged(changed(piece))
        self.kept(is_piece, ("thing",), (SMALL,))
        self.judged(every_kind())
        self.judged([((names), body) for body in drawnwords.statements(300, exits=3, names=("a", "b")) for names in (("a",), AB)])

    def test_signals(self):
        for names, right in ((("a",), True), (AB, True), (("a", "b", "c"), True), ((), False), (("a", "b", "c", "d"), False),
                             (("b", "a"), False), (("a", "a"), False), (["a"], False), (("A",), False), (("abcdefghi",), False), ("a", False)):
            self.assertIs(is_piece((names, PAUSE)), right)
        self.assertFalse(is_piece((AB, ("emit", "c"))))
        self.assertTrue(is_piece((AB, ("local", "c", ("emit", "c")))))

    def test_how_many_statements_and_levels(self):
        for many in (39, 40, 41):
            self.assertIs(is_piece((AB, drawnwords.broad(many))), many <= 40)
        for levels in (14, 15, 16):
            self.assertIs(is_piece((AB, drawnwords.chain(levels))), levels <= 15)

    def test_exits(self):
        for body, right in ((("exit", 0), True), (("exit", 1), True), (("exit", 2), False), (("trap", ("exit", 2)), True), (("trap", ("exit", 3)), False),
                            (("loop", ("exit", 1)), True), (("par", ("trap", ("exit", 2)), ("exit", 2)), False), (("hold", "a", PAUSE), False),
                            (("loop", NOTHING), False)):
            self.assertIs(is_piece((AB, body)), right)


class Readings(Contract):
    def test_drawn(self):
        rng = random.Random(1)
        told = set()
        for names, rest in drawnpieces.standings(260) + drawnpieces.standings(60, start=1000, most=25):
            every = plainly.all_readings(len(names))
            for given in rng.sample(every, min(len(every), 6)):
                for run in (1, None):
                    found = self.kept(piece_reading, ("signals", "standing", "run", "given"), (names, rest, run, given))
                    self.assertEqual(repr(found), repr(plainparts.piece_reading(names, rest, run, given)))
                    told |= {(run,) + pair for pair in zip(found[1], range(4))}
            for given in plainly.all_bits(len(names)):
                found = self.kept(piece_settled, ("signals", "standing", "given"), (names, rest, given))
                self.assertEqual(repr(found), repr(plainparts.piece_settled(names, rest, given)))
        self.assertEqual(len(told), 3 * 4 + 2 * 4)

    def test_all_readings_of_small_ones(self):
        for names, rest in drawnpieces.standings(120, start=3000, most=6):
            for given in plainly.all_readings(len(names)):
                for run in (1, None):
                    self.assertEqual(piece_reading(names, rest, run, given), plainparts.piece_reading(names, rest, run, given))

    def test_facts(self):
        # More that is known leaves what is sure; what is run or not is less known than what is run.
        def below(one, other):
            return all(a is None or a == b for a, b in zip(one[0] + one[1], other[0] + other[1]))
        for names, rest in drawnpieces.standings(120, start=5000):
            for given in plainly.all_readings(len(names)):
                told = piece_reading(names, rest, 1, given)
                self.assertTrue(below(piece_reading(names, rest, None, given), told))
                for at, reading in enumerate(given):
                    for bit in (0, 1) if reading is None else ():
                        more = given[:at] + (bit,) + given[at + 1:]
                        self.assertTrue(below(told, piece_reading(names, rest, 1, more)))

    def test_settled_is_an_instant_of_a_program(self):
        for names, rest in drawnpieces.standings(150, start=7000):
            around = ("trap", ("trap", rest))
            prog = (names, (), PAUSE)
            for given in plainly.all_bits(len(names)):
                found, told = piece_settled(names, rest, given), react(prog, around, given)
                self.assertEqual(found is None, told is None)
                if told is not None:
                    self.assertEqual(told[0], found[0])
                    self.assertEqual(told[2], None if found[2] is None else ("trap", ("trap", found[2])))

    def test_by_hand(self):
        self.assertEqual(piece_reading(("s",), EMITS_ITSELF, 1, (0,)), ((0,), (1, 0, 0, 0)))
        self.assertEqual(piece_reading(("s",), EMITS_ITSELF, None, (0,)), ((None,), (None, 0, 0, 0)))
        self.assertEqual(piece_reading(("s",), NOTHING, None, (0,)), ((0,), (None, 0, 0, 0)))
        self.assertEqual(piece_reading(("x",), GOES_OUT, 1, (None,)), ((None,), (0, 0, 0, None)))
        self.assertEqual(piece_reading(("x",), MAY_PAUSE, 1, (None,)), ((None,), (0, None, 0, None)))
        self.assertEqual(piece_reading(("x",), MAY_PAUSE, 1, (0,)), ((0,), (0, 0, 0, 1)))
        self.assertEqual(piece_reading(AB, ("emit", "a"), 1, (None, None)), ((1, None), (1, 0, 0, 0)))
        self.assertEqual(piece_reading(AB, ("emit", "a"), 1, (0, 0)), ((1, 0), (1, 0, 0, 0)))
        self.assertEqual(piece_settled(AB, SMALL[1], (0, 1)), ((0, 1), 1, ("seq", NOTHING, SMALL[1][2])))
        self.assertEqual(piece_settled(AB, ("seq", NOTHING, SMALL[1][2]), (0, 1)), ((0, 1), 3, None))
        self.assertEqual(piece_settled(AB, ("seq", NOTHING, SMALL[1][2]), (1, 0)), ((1, 1), 0, None))
        self.assertEqual(piece_settled(AB, ("exit", 0), (1, 0)), ((1, 0), 2, None))
        self.assertIsNone(piece_settled(("s",), ("if", "s", ("emit", "s"), NOTHING), (0,)))
        self.assertEqual(piece_settled(("s",), ("if", "s", ("emit", "s"), NOTHING), (1,)), ((1,), 0, None))

    def test_wrong_ones(self):
        args = (AB, ("hold", "a", ("trap", ("exit", 2))), 1, (0, None))
        settled = args[:2] + ((0, 1),)
        for function, more in ((piece_reading, args), (piece_settled, settled)):
            for value in every_kind() + list(changed(AB)):
                if not plainparts.signals(value):
                    self.refuses(BadSignals, function, (value,) + more[1:])
            self.wrong_values(function, more, 1, BadStanding, lambda x: plainparts.standing(AB, x), least=100,
                              more=(("exit", 2), ("trap", ("exit", 3)), ("emit", "c"), ("loop", NOTHING), None, drawnwords.chain(81)))
        self.wrong_values(piece_reading, args, 2, BadRun, lambda x: x is None or type(x) is int and x == 1, least=50, more=(0, True, False, 2, (1,)))
        self.wrong_values(piece_reading, args, 3, BadGiven, lambda x: plainly.readings(x, 2), least=100)
        self.wrong_values(piece_settled, settled, 2, BadGiven, lambda x: plainly.bits(x, 2), least=100, more=((0, None),))
        self.first_error(piece_reading, args, (BadSignals, BadStanding, BadRun, BadGiven))
        self.first_error(piece_settled, settled, (BadSignals, BadStanding, BadGiven))


class Alike(Contract):
    def do_alike(self, names, one, other):
        """Whether two bodies do alike, told both ways round."""
        there = pieces_pairing((names, one), (names, other)) is not None
        self.assertIs(pieces_pairing((names, other), (names, one)) is not None, there)
        return there

    def test_drawn_pairs(self):
        told = {True: 0, False: 0}
        longest = 0
        for one, other in drawnpieces.pairs(320):
            found = self.kept(pieces_pairing, ("one", "other"), (one, other))
            self.assertEqual(repr(found), repr(plainparts.met_pairs(one, other)))
            told[found is not None] += 1
            if found is not None:
                self.assertIs(self.kept(is_pieces_pairing, ("one", "other", "thing"), (one, other, found)), True)
                self.alike_lists(is_pieces_pairing, (one, other, found), 2)
                longest = max(longest, len(found))
        self.assertGreater(min(told.values()), 80)
        self.assertGreaterEqual(longest, 4)

    def test_the_examples(self):
        self.assertFalse(self.do_alike(("s",), EMITS_ITSELF, NOTHING))
        self.assertFalse(self.do_alike(("x",), GOES_OUT, MAY_PAUSE))
        self.assertTrue(self.do_alike(("s",), EMITS_ITSELF, EMITS_ITSELF))
        # They settle alike.
        for bit in (0, 1):
            self.assertEqual(piece_settled(("s",), EMITS_ITSELF, (bit,)), piece_settled(("s",), NOTHING, (bit,)))
        self.assertEqual(pieces_pairing((AB, PAUSE), (AB, PAUSE)), [(PAUSE, PAUSE), (NOTHING, NOTHING)])

    def alike_rules(self, p, q, r, k, s):
        """Pairs of statements that do alike, whatever p, q, r are."""
        return [(("seq", p, ("seq", q, r)), ("seq", ("seq", p, q), r)), (("par", p, ("par", q, r)), ("par", ("par", p, q), r)),
                (("par", p, q), ("par", q, p)), (("par", p, p), p), (("par", p, NOTHING), p), (("seq", p, NOTHING), p), (("seq", NOTHING, p), p),
                (("loop", p), ("seq", p, ("loop", p))), (("suspend", s, ("suspend", s, p)), ("suspend", s, p)),
                (("suspend", s, ("seq", p, q)), ("seq", ("suspend", s, p), ("suspend", s, q))), (("seq", ("exit", k), p), ("exit", k)),
                (("local", "zz", p), p)]

    def test_rules(self):
        rng = random.Random(2)
        tried = [0] * 12
        for _ in range(160):
            names = draw_names(rng, 2)
            p, q, r = [draw_body(rng, names, 4) for _ in range(3)]
            for rule, (one, other) in enumerate(self.alike_rules(p, q, r, rng.randint(0, 1), rng.choice(names))):
                if plainparts.piece((names, one)) and plainparts.piece((names, other)):
                    self.assertTrue(self.do_alike(names, one, other), (names, one, other))
                    tried[rule] += 1
        self.assertGreater(min(tried), 30)

    def test_rules_that_do_not_hold(self):
        rng = random.Random(3)
        found = {True: [0, 0], False: [0, 0]}
        for _ in range(200):
            p = draw_body(rng, AB, 5)
            for rule, (one, other) in enumerate(((("if", "a", p, p), p),
                                                 (("suspend", "a", ("suspend", "b", p)), ("suspend", "b", ("suspend", "a", p))))):
                found[self.do_alike(AB, one, other)][rule] += 1
        for row in found.values():
            self.assertGreater(min(row), 3)

    def test_what_is_made_of_such_as_do_alike_does_alike(self):
        rng = random.Random(4)
        tried = 0
        for one, other in drawnpieces.pairs(260, start=5000):
            if pieces_pairing(one, other) is None:
                continue
            names, p, q = one[0], one[1], other[1]
            r, s = draw_body(rng, names, 4), rng.choice(names)
            for wrap in (lambda x: ("seq", r, x), lambda x: ("seq", x, r), lambda x: ("par", x, r), lambda x: ("if", s, r, x), lambda x: ("loop", x),
                         lambda x: ("trap", x), lambda x: ("suspend", s, x), lambda x: ("local", s, x)):
                if plainparts.piece((names, wrap(p))) and plainparts.piece((names, wrap(q))):
                    self.assertTrue(self.do_alike(names, wrap(p), wrap(q)))
                    tried += 1
        self.assertGreater(tried, 300)

    def test_300_pairs_and_more(self):
        # Rows of 4, 5 and 9 pauses, each of which goes on where its own signal is not there.
        rows = [("suspend", name, balanced(many)) for name, many in (("a", 4), ("b", 5), ("c", 9))]
        body = ("par", rows[0], ("par", rows[1], rows[2]))
        piece, more = [(("a", "b", "c"), whole) for whole in (body, ("seq", PAUSE, body))]
        self.assertTrue(plainparts.piece(piece) and plainparts.piece(more))
        found = pieces_pairing(piece, piece)
        self.assertEqual(len(found), 5 * 6 * 10)
        self.assertTrue(is_pieces_pairing(piece, piece, found))
        self.assertEqual(sum(map(len, classes(piece))), 300)
        for function, args in ((pieces_pairing, (more, more)), (classes, (more,))):
            with self.assertRaises(TooMany) as caught:
                function(*args)
            self.assertEqual(caught.exception.most, 300)
        # Such as part at once are told all the same.
        self.assertIsNone(pieces_pairing(more, (more[0], NOTHING)))
        # More pairs than may be met may be judged.
        self.assertTrue(is_pieces_pairing(more, more, found + [(("seq", NOTHING, body), ("seq", NOTHING, body)), (more[1], more[1])]))

    def test_lists_near_pairings(self):
        rng = random.Random(5)
        told = {True: 0, False: 0}
        for one, other in drawnpieces.pairs(90, start=9000):
            found = pieces_pairing(one, other) or [(one[1], other[1])]
            things = [found, tuple(found), found[::-1], found + found[-1:], found[1:], found[:-1], [], [list(pair) for pair in found]]
            things += [found + [(PAUSE, PAUSE), (NOTHING, NOTHING)], found + [(PAUSE, NOTHING)], found + [(("exit", 2), ("exit", 2))]]
            things += [found + [(("exit", 1), ("exit", 1))], found + [(None, None)], found + [(("emit", "q"), ("emit", "q"))]]
            things += [found[:at] + found[at + 1:] for at in range(len(found))] + rng.sample(list(changed(found)), 6)
            for verdict, many in self.judges(lambda x: is_pieces_pairing(one, other, x),
                                             lambda x: plainparts.is_pieces_pairing(one, other, x), things).items():
                told[verdict] += many
        self.assertGreater(min(told.values()), 150)
        piece = (AB, ("loop", PAUSE))
        self.judges(lambda x: is_pieces_pairing(piece, piece, x), lambda x: plainparts.is_pieces_pairing(piece, piece, x),
                    every_kind() + list(changed(pieces_pairing(piece, piece))))

    def test_wrong_ones(self):
        for function, more in ((pieces_pairing, ()), (is_pieces_pairing, ([],))):
            args = (SMALL, SMALL) + more
            self.wrong_values(function, args, 0, BadPiece, plainparts.piece, least=200)
            for value in every_kind() + list(changed(SMALL)):
                if not plainparts.piece(value):
                    self.refuses(BadPiece, function, (SMALL, value) + more)
                elif value[0] != AB:
                    self.refuses(Unlike, function, (SMALL, value) + more)
            self.refuses(Unlike, function, (SMALL, (("a", "b", "c"), SMALL[1])) + more)
            self.refuses(Unlike, function, (SMALL, (("a",), PAUSE)) + more)
            self.first_error(function, args, (BadPiece, BadPiece) + (None,) * len(more))


def balanced(many):
    """So many pauses, one behind the other, in few levels."""
    if many == 1:
        return PAUSE
    return ("seq", balanced(many // 2), balanced(many - many // 2))


class Classes(Contract):
    def test_drawn(self):
        most = 0
        for piece in drawnpieces.pieces(150, start=300):
            found = self.kept(classes, ("piece",), (piece,))
            self.assertEqual(repr(found), repr(plainparts.classes(piece)))
            most = max(most, len(found))
        for one, other in drawnpieces.pairs(60, start=700):
            for piece in (one, (one[0], ("loop", ("seq", PAUSE, ("seq", one[1], PAUSE))))):
                if plainparts.piece(piece):
                    self.assertEqual(repr(classes(piece)), repr(plainparts.classes(piece)))
        self.assertGreaterEqual(most, 4)

    def test_by_hand(self):
        self.assertEqual(classes((AB, NOTHING)), [(NOTHING,)])
        self.assertEqual(classes((AB, PAUSE)), [(PAUSE,), (NOTHING,)])
        once = ("seq", NOTHING, ("loop", PAUSE))
        self.assertEqual(classes((AB, ("loop", PAUSE))), [(("loop", PAUSE), once)])

    def test_wrong_ones(self):
        self.wrong_values(classes, (SMALL,), 0, BadPiece, plainparts.piece, least=200)


class Surroundings(Contract):
    HOLE = ("hole",)

    def drawn(self, many, start=0):
        """Drawn surroundings, and statements with holes that are none."""
        for seed in range(start, start + many):
            rng = random.Random(seed)
            whole = drawnwords.draw(rng, rng.randint(1, 14), ("a", "b"), False, exits=2)
            if rng.random() < 0.8:
                whole = ("trap", ("trap", whole))
            yield self.with_holes(rng, whole)

    def with_holes(self, rng, whole):
        if whole == PAUSE and rng.random() < 0.6:
            return self.HOLE
        return tuple(self.with_holes(rng, kid) if type(kid) is tuple else kid for kid in whole)

    def test_drawn(self):
        rng = random.Random(6)
        told = self.judges(is_surroundings, plainparts.surroundings, self.drawn(400))
        self.assertGreater(min(told.values()), 60)
        put = {True: 0, False: 0}
        for around in self.drawn(300, start=1000):
            if not plainparts.surroundings(around):
                self.refuses(BadSurroundings, put_in, (around, PAUSE))
                continue
            for body in (draw_body(rng, AB, 6), PAUSE, NOTHING, drawnwords.broad(60)):
                whole = plainparts.filled(around, body)
                if plainwords.statement(whole):
                    self.assertEqual(self.kept(put_in, ("surroundings", "body"), (around, body)), whole)
                else:
                    self.refuses(BadStatement, put_in, (around, body))
                put[plainwords.statement(whole)] += 1
        self.assertGreater(min(put.values()), 40)

    def test_by_hand(self):
        hole = self.HOLE
        right = [("trap", ("trap", hole)), ("trap", ("trap", ("par", hole, hole))), ("trap", ("local", "a", ("trap", ("seq", hole, ("emit", "a"))))),
                 ("trap", ("trap", ("trap", ("loop", hole)))), ("par", PAUSE, ("trap", ("suspend", "a", ("trap", hole))))]
        wrong = [hole, ("trap", hole), ("trap", ("trap", PAUSE)), ("par", hole, ("trap", ("trap", hole))), ("trap", ("trap", ("hole", "a"))),
                 ("trap", ("trap", ["hole"])), ("trap", ("trap", ("hold", "a", hole))), ("trap", ("trap", ("loop", ("seq", hole, ("hole",)), 1))),
                 ("trap", ("trap", ("loop", ("par", NOTHING, NOTHING)))), ("trap", ("trap", ("if", "a", hole))), ("hole",), (), None]
        for thing in right:
            self.assertIs(self.kept(is_surroundings, ("thing",), (thing,)), True)
        for thing in wrong:
            self.assertIs(is_surroundings(thing), False)
            self.refuses(BadSurroundings, put_in, (thing, PAUSE))
        self.judges(is_surroundings, plainparts.surroundings, right + wrong + every_kind())
        for thing in right:
            self.judges(is_surroundings, plainparts.surroundings, changed(thing))
        # A local around a hole binds its signal there, and exits lead to the traps around it.
        around = ("trap", ("local", "a", ("trap", hole)))
        self.assertEqual(put_in(around, ("seq", ("emit", "a"), ("exit", 1))), ("trap", ("local", "a", ("trap", ("seq", ("emit", "a"), ("exit", 1))))))
        self.assertTrue(is_program((("a",), (), put_in(around, ("exit", 1)))))
        # What comes may be a statement though exits lead out of it.
        self.assertEqual(put_in(right[0], ("exit", 9)), ("trap", ("trap", ("exit", 9))))

    def test_what_comes_is_no_statement(self):
        hole = self.HOLE
        loops = ("trap", ("trap", ("loop", hole)))
        self.refuses(BadStatement, put_in, (loops, NOTHING))
        self.refuses(BadStatement, put_in, (loops, ("emit", "a")))
        self.assertEqual(put_in(loops, ("exit", 0)), ("trap", ("trap", ("loop", ("exit", 0)))))
        deep = ("trap", ("trap", hole))
        for levels in (38, 39, 40):
            if levels <= 38:
                self.assertEqual(put_in(deep, drawnwords.chain(levels)), drawnwords.chain(levels + 2))
            else:
                self.refuses(BadStatement, put_in, (deep, drawnwords.chain(levels)))
        twice = ("trap", ("trap", ("par", hole, hole)))
        for many in (98, 99):
            if many == 98:
                self.assertTrue(plainwords.statement(put_in(twice, drawnwords.broad(many))))
            else:
                self.refuses(BadStatement, put_in, (twice, drawnwords.broad(many)))

    def test_wrong_ones(self):
        args = (("trap", ("trap", self.HOLE)), ("emit", "a"))
        self.wrong_values(put_in, args, 0, BadSurroundings, plainparts.surroundings, least=100)
        self.wrong_values(put_in, args, 1, BadStatement, plainwords.statement, least=100, more=(("hold", "a", PAUSE), self.HOLE, ("loop", NOTHING)))
        self.first_error(put_in, args, (BadSurroundings, BadStatement))
