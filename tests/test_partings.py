import random

from restsure.errors import BadPiece, TooMany, Unlike
from restsure.instants import run_program
from restsure.partings import pieces_parting
from restsure.pieces import is_surroundings, pieces_pairing, put_in
from restsure.statements import is_program
from tests import drawnpieces, drawnwords, plainparts
from tests.contract import Contract
from tests.drawnpieces import EMITS_ITSELF, GOES_OUT, MAY_PAUSE, draw_body
from tests.drawnwords import NOTHING, PAUSE
from tests.test_pieces import SMALL, balanced
from tests.values import changed, every_kind

AB = ("a", "b")


def told(prog, rows):
    """The totals and codes, None where an instant is not sure."""
    return [None if one is None else one[:2] for one in run_program(prog, rows)]


class Partings(Contract):
    def tells_apart(self, one, other):
        """What is told parts both; how many instants it has, and the last pair of what is told."""
        found = self.kept(pieces_parting, ("one", "other"), (one, other))
        surroundings, outputs, rows = found
        self.assertIs(type(rows), list)
        self.assertTrue(is_surroundings(surroundings))
        self.assertTrue(plainparts.surroundings(surroundings))
        wholes = [(one[0], outputs, put_in(surroundings, piece[1])) for piece in (one, other)]
        self.assertTrue(all(is_program(whole) for whole in wholes))
        runs = [told(whole, rows) for whole in wholes]
        self.assertEqual([len(run) for run in runs], [len(rows)] * 2)
        self.assertEqual(runs[0][:-1], runs[1][:-1])
        self.assertNotIn(None, runs[0][:-1])
        self.assertNotEqual(runs[0][-1], runs[1][-1])
        return len(rows), (runs[0][-1], runs[1][-1])

    def test_drawn_pairs(self):
        ways = {}
        for one, other in drawnpieces.pairs(700, start=20000):
            if pieces_pairing(one, other) is not None:
                self.assertIsNone(pieces_parting(one, other))
                ways["alike"] = ways.get("alike", 0) + 1
                continue
            many, last = self.tells_apart(one, other)
            key = (min(many, 3), None in last)
            ways[key] = ways.get(key, 0) + 1
        self.assertGreaterEqual(min(ways.values()), 4)
        self.assertEqual(len(ways), 7)

    def test_unlike_readings_of_each_kind(self):
        # What settles alike, and is unlike for readings alone; x is given 0 or 1, or nothing is known of it.
        emit = ("emit", "y")
        pairs = [(NOTHING, ("if", "x", NOTHING, NOTHING), "no code for None: not for bits"),
                 (emit, ("if", "x", emit, emit), "a signal that must be emitted"),
                 (("exit", 0), ("if", "x", ("exit", 0), ("exit", 0)), "code 2"),
                 (("exit", 1), ("if", "x", ("exit", 1), ("exit", 1)), "code 3"),
                 (PAUSE, ("if", "x", PAUSE, PAUSE), "code 1"),
                 (GOES_OUT, MAY_PAUSE, "code 1 that can be"),
                 (("if", "x", NOTHING, NOTHING), ("if", "x", NOTHING, ("if", "x", ("exit", 0), NOTHING)), "code 2 that can be"),
                 (("if", "x", NOTHING, NOTHING), ("if", "x", NOTHING, ("if", "x", ("exit", 1), NOTHING)), "code 3 that can be"),
                 (("if", "x", ("exit", 0), ("exit", 0)), ("if", "x", ("exit", 0), ("if", "x", NOTHING, ("exit", 0))), "code 0 that can be"),
                 (("if", "x", NOTHING, NOTHING), ("if", "x", NOTHING, ("if", "x", emit, NOTHING)), "a signal that can be emitted"),
                 (NOTHING, ("local", "l", ("seq", ("emit", "l"), ("if", "l", NOTHING, emit))), "a signal, if it is not run"),
                 (NOTHING, ("local", "l", ("seq", ("emit", "l"), ("if", "l", NOTHING, PAUSE))), "code 1, if it is not run"),
                 (NOTHING, ("local", "l", ("seq", ("emit", "l"), ("if", "l", NOTHING, ("exit", 0)))), "code 2, if it is not run"),
                 (NOTHING, ("local", "l", ("seq", ("emit", "l"), ("if", "l", NOTHING, ("exit", 1)))), "code 3, if it is not run"),
                 (("exit", 0), ("local", "l", ("seq", ("emit", "l"), ("if", "l", ("exit", 0), NOTHING))), "code 0, if it is not run")]
        for names in (("x", "y"), ("w", "x", "y")):
            for lead in (0, 1, 2, 7, 19):
                for one, other, why in pairs:
                    bodies = [(names, part if not lead else ("seq", balanced(lead), part)) for part in (one, other)]
                    if not all(plainparts.piece(piece) for piece in bodies):
                        continue
                    if pieces_pairing(*bodies) is None:
                        for pair in (bodies, bodies[::-1]):
                            self.assertEqual(self.tells_apart(*pair)[0], lead + 1, why)
                    else:
                        self.assertIsNone(pieces_parting(*bodies))
                        self.fail(why)

    def test_several_signals_that_are_unsure(self):
        # Something is unlike only where both x and y are unsure, and w tells it, or a code.
        names = ("w", "x", "y")

        def only_unsure(part):
            inner = ("if", "y", NOTHING, ("if", "y", part, NOTHING))
            return ("if", "x", NOTHING, ("if", "x", inner, NOTHING))
        for part in (("emit", "w"), PAUSE, ("exit", 0), ("exit", 1)):
            for lead in (0, 1, 5):
                run = [only_unsure(NOTHING), only_unsure(part)]
                held = [("local", "l", ("seq", ("emit", "l"), ("if", "l", NOTHING, body))) for body in run]
                for bodies in (run, held):
                    pair = [(names, ("seq", balanced(lead), body) if lead else body) for body in bodies]
                    self.assertTrue(all(plainparts.piece(piece) for piece in pair))
                    for row in (pair, pair[::-1]):
                        self.assertIsNone(pieces_pairing(*row))
                        self.assertEqual(self.tells_apart(*row)[0], lead + 1)

    def test_bits_for_which_they_settle(self):
        # Where x is not there, or is, z stands in a ring by itself: what is unsure must come to be the other one.
        names = ("x", "y", "z")
        ring, emit = ("if", "z", ("emit", "z"), NOTHING), ("emit", "y")
        for settles in (("if", "x", NOTHING, ring), ("if", "x", ring, NOTHING)):
            for one, other in ((emit, ("if", "x", emit, emit)),
                               (("if", "x", NOTHING, NOTHING), ("if", "x", NOTHING, ("if", "x", emit, NOTHING)))):
                for lead in (0, 2):
                    bodies = [("par", settles, part) for part in (one, other)]
                    pair = [(names, ("seq", balanced(lead), body) if lead else body) for body in bodies]
                    for row in (pair, pair[::-1]):
                        self.assertIsNone(pieces_pairing(*row))
                        self.assertEqual(self.tells_apart(*row)[0], lead + 1)

    def test_names(self):
        # Signals that are named as surroundings of other pieces name theirs.
        for names in (("a",), ("a", "b"), ("a", "b", "c"), ("a", "c"), ("b",), ("d", "e"), ("tell", "zz")):
            x = names[-1]
            for one, other in ((GOES_OUT, MAY_PAUSE), (NOTHING, EMITS_ITSELF)):
                text = repr((one, other)).replace("'x'", repr(x)).replace("'s'", repr(names[0]))
                one, other = eval(text)
                if one == other or pieces_pairing((names, one), (names, other)) is not None:
                    continue
                self.tells_apart((names, one), (names, other))
        rng = random.Random(1)
        tried = 0
        for _ in range(120):
            names = tuple(sorted(rng.sample(["a", "b", "c", "d", "e", "o"], 3)))
            pair = [(names, ("seq", PAUSE, draw_body(rng, names, 5))) for _ in range(2)]
            inner = [(names, ("local", rng.choice("abcde"), piece[1])) for piece in pair]
            for row in (pair, inner):
                if pieces_pairing(*row) is None:
                    self.tells_apart(*row)
                    tried += 1
        self.assertGreater(tried, 100)

    def test_instants_ahead(self):
        # 19 instants ahead, and 20; the piece has at most 40 statements.
        for many, right in ((1, True), (18, True), (19, True), (20, False)):
            pair = [(("a",), body) for body in (balanced(many), ("loop", balanced(many)))]
            self.assertTrue(all(plainparts.piece(piece) for piece in pair))
            if right:
                self.assertEqual(self.tells_apart(*pair)[0], many + 1)
            else:
                with self.assertRaises(TooMany) as caught:
                    pieces_parting(*pair)
                self.assertEqual(caught.exception.most, 20)
                self.assertIsNone(pieces_pairing(*pair))

    def test_great_pieces(self):
        # 40 statements in 15 levels, parted behind many instants by readings alone.
        def tall(body, levels):
            for _ in range(levels):
                body = ("seq", NOTHING, body)
            return body
        names = ("x", "y", "z")
        for one, other in ((GOES_OUT, MAY_PAUSE), (NOTHING, ("local", "l", ("seq", ("emit", "l"), ("if", "l", NOTHING, PAUSE)))),
                           (NOTHING, ("local", "l", ("seq", ("emit", "l"), ("if", "l", NOTHING, ("exit", 1)))))):
            for lead in (1, 11, 14):
                pair = [(names, ("seq", balanced(lead), tall(part, 4 if lead > 11 else 9))) for part in (one, other)]
                if not all(plainparts.piece(piece) for piece in pair):
                    continue
                self.assertEqual(self.tells_apart(*pair)[0], lead + 1)
            pair = [(names, tall(part, 10)) for part in (one, other)]
            self.assertEqual(self.tells_apart(*pair)[0], 1)

    def test_more_than_300_pairs(self):
        rows = [("suspend", name, balanced(many)) for name, many in (("a", 4), ("b", 5), ("c", 9))]
        more = (("a", "b", "c"), ("seq", PAUSE, ("par", rows[0], ("par", rows[1], rows[2]))))
        with self.assertRaises(TooMany) as caught:
            pieces_parting(more, more)
        self.assertEqual(caught.exception.most, 300)
        self.assertEqual(self.tells_apart(more, (more[0], NOTHING))[0], 1)

    def test_exchanged_within_programs(self):
        # Pieces that do alike are exchanged within surroundings with no change.
        rng = random.Random(2)
        tried = 0
        for one, other in drawnpieces.pairs(300, start=40000):
            if pieces_pairing(one, other) is None:
                continue
            names = one[0]
            around = drawnwords.draw(rng, rng.randint(2, 10), names + ("q",), False, exits=1)
            whole = self.with_holes(rng, ("trap", ("trap", ("par", PAUSE, around))))
            if not plainparts.surroundings(whole):
                continue
            programs = [(names, ("q",), plainparts.filled(whole, piece[1])) for piece in (one, other)]
            if not all(is_program(prog) for prog in programs):
                continue
            for _ in range(3):
                rows = [tuple(rng.randint(0, 1) for _ in names) for _ in range(6)]
                self.assertEqual(told(programs[0], rows), told(programs[1], rows))
                tried += 1
        self.assertGreater(tried, 150)

    def with_holes(self, rng, whole):
        if whole == PAUSE and rng.random() < 0.7:
            return ("hole",)
        return tuple(self.with_holes(rng, kid) if type(kid) is tuple else kid for kid in whole)

    def test_wrong_ones(self):
        args = (SMALL, SMALL)
        self.wrong_values(pieces_parting, args, 0, BadPiece, plainparts.piece, least=200)
        for value in every_kind() + list(changed(SMALL)):
            if not plainparts.piece(value):
                self.refuses(BadPiece, pieces_parting, (SMALL, value))
            elif value[0] != AB:
                self.refuses(Unlike, pieces_parting, (SMALL, value))
        self.first_error(pieces_parting, args, (BadPiece, BadPiece))
        self.assertIsNone(pieces_parting(SMALL, SMALL))
