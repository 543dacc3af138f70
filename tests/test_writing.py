import itertools
import random

from restsure.errors import BadCircuit, BadProgram, BadRest
from restsure.writing import circuit_text, program_text, rest_text
from tests import drawn, drawnprograms, drawnwords, plainlines, plainly, plainwords
from tests.contract import Contract
from tests.drawnwords import NOTHING, PAUSE

A, B, C = ("emit", "a"), ("emit", "b"), ("emit", "c")


def par(p, q):
    return ("par", p, q)


def seq(p, q):
    return ("seq", p, q)


class Rests(Contract):
    def test_drawn(self):
        seen = ""
        for rest in drawnwords.statements(500, most=20) + drawnwords.statements(100, most=60, start=900):
            told = self.kept(rest_text, ("rest",), (rest,))
            self.assertEqual(told, plainlines.rest_text(rest))
            seen += told
        for word in "NOTHING PAUSE EMIT IF ELSE LOOP SUSPEND HOLD TRAP EXIT LOCAL || ; (".split():
            self.assertIn(word, seen)

    def test_each_form(self):
        for rest, text in ((NOTHING, "NOTHING"), (PAUSE, "PAUSE"), (A, "EMIT a"), (("exit", 0), "EXIT 0"), (("exit", 20), "EXIT 20"),
                           (("if", "a", NOTHING, PAUSE), "IF a {NOTHING} ELSE {PAUSE}"), (("loop", PAUSE), "LOOP {PAUSE}"),
                           (("suspend", "abcdefgh", PAUSE), "SUSPEND abcdefgh {PAUSE}"), (("hold", "a", PAUSE), "HOLD a {PAUSE}"),
                           (("trap", ("exit", 0)), "TRAP {EXIT 0}"), (("local", "x", A), "LOCAL x {EMIT a}"),
                           (par(A, B), "EMIT a || EMIT b"), (seq(A, B), "EMIT a; EMIT b")):
            self.assertEqual(rest_text(rest), text)

    def test_parentheses_where_they_are_needed(self):
        for rest, text in ((par(par(A, B), C), "EMIT a || EMIT b || EMIT c"), (par(A, par(B, C)), "EMIT a || (EMIT b || EMIT c)"),
                           (seq(seq(A, B), C), "EMIT a; EMIT b; EMIT c"), (seq(A, seq(B, C)), "EMIT a; (EMIT b; EMIT c)"),
                           (par(seq(A, B), C), "EMIT a; EMIT b || EMIT c"), (par(A, seq(B, C)), "EMIT a || EMIT b; EMIT c"),
                           (seq(par(A, B), C), "(EMIT a || EMIT b); EMIT c"), (seq(A, par(B, C)), "EMIT a; (EMIT b || EMIT c)"),
                           (("loop", seq(par(A, B), PAUSE)), "LOOP {(EMIT a || EMIT b); PAUSE}"),
                           (("trap", par(A, B)), "TRAP {EMIT a || EMIT b}"),
                           (("if", "a", seq(A, B), par(A, B)), "IF a {EMIT a; EMIT b} ELSE {EMIT a || EMIT b}"),
                           (seq(("trap", par(A, B)), C), "TRAP {EMIT a || EMIT b}; EMIT c")):
            self.assertEqual(rest_text(rest), text)

    def test_all_small_ones(self):
        rows = [[], [A, PAUSE]]
        for many in range(2, 6):
            rows.append([("par", p, q) for left in range(1, many) for p, q in itertools.product(rows[left], rows[many - left])]
                        + [("seq", p, q) for left in range(1, many) for p, q in itertools.product(rows[left], rows[many - left])])
        texts = {}
        for rest in itertools.chain(*rows[:5], rows[5][::7]):
            text = rest_text(rest)
            self.assertEqual(text, plainlines.rest_text(rest))
            self.assertNotIn(text, texts)
            texts[text] = rest

    def test_deep_and_wide_ones(self):
        deep = drawnwords.chain(80)
        self.assertEqual(rest_text(deep), "TRAP {" * 79 + "PAUSE" + "}" * 79)
        right, left = PAUSE, PAUSE
        for _ in range(79):
            right, left = ("seq", PAUSE, right), ("par", left, PAUSE)
        self.assertEqual(rest_text(right), "PAUSE; (" * 78 + "PAUSE; PAUSE" + ")" * 78)
        self.assertEqual(rest_text(left), " || ".join(["PAUSE"] * 80))
        for many in (1999, 2000):
            broad = drawnwords.broad(many)
            self.assertEqual(rest_text(broad), plainlines.rest_text(broad))
        self.refuses(BadRest, rest_text, (drawnwords.chain(81),))
        self.refuses(BadRest, rest_text, (drawnwords.broad(2001),))

    def test_wrong_ones(self):
        for rest in (drawnwords.HAND_BODY, ("hold", "a", ("trap", ("exit", 0)))):
            self.wrong_values(rest_text, (rest,), 0, BadRest, plainwords.rest, least=100)


class Programs(Contract):
    def test_drawn(self):
        for prog in drawnwords.programs(150) + drawnprograms.small_inputs(60) + drawnprograms.whirls(12):
            told = self.kept(program_text, ("program",), (prog,))
            names = ["".join([" " + name for name in (", ".join(row),) if name]) for row in prog[:2]]
            self.assertEqual(told, "INPUTS%s; OUTPUTS%s; RUN {%s}\n" % (names[0], names[1], plainlines.rest_text(prog[2])))

    def test_by_hand(self):
        self.assertEqual(program_text(((), (), NOTHING)), "INPUTS; OUTPUTS; RUN {NOTHING}\n")
        self.assertEqual(program_text((("a", "b"), ("c",), seq(A, par(B, C)))),
                         "INPUTS a, b; OUTPUTS c; RUN {EMIT a; (EMIT b || EMIT c)}\n")
        self.assertEqual(program_text((("b",), (), PAUSE)), "INPUTS b; OUTPUTS; RUN {PAUSE}\n")
        self.assertEqual(program_text(((), tuple("hgfedcba"), PAUSE)), "INPUTS; OUTPUTS h, g, f, e, d, c, b, a; RUN {PAUSE}\n")

    def test_wrong_ones(self):
        self.wrong_values(program_text, ((("a",), ("o",), ("emit", "o")),), 0, BadProgram, plainwords.program, least=100)
        self.refuses(BadProgram, program_text, (((), (), ("hold", "a", PAUSE)),))


class Circuits(Contract):
    def test_drawn(self):
        for what in drawn.lots_of(300, most_sources=4) + drawn.BY_HAND:
            lines = ["INPUTS %d;" % what[0]]
            lines += ["REG %d %s %d;" % (bit, kind, at) for bit, (kind, at) in what[1]]
            for sources, table in what[2]:
                listed = ", ".join("%s %d" % source for source in sources)
                lines.append("GATE [%s]%s;" % ("".join(map(str, table)), listed and " " + listed))
            lines += ["OUT %s %d;" % source for source in what[3]]
            self.assertEqual(self.kept(circuit_text, ("circuit",), (what,)), "".join(line + "\n" for line in lines))

    def test_by_hand(self):
        what = (2, ((0, ("gate", 0)),), (((("in", 0), ("gate", 1)), (0, 1, 1, 0)), ((), (1,))), (("reg", 0), ("bit", 1)))
        self.assertEqual(circuit_text(what), "INPUTS 2;\nREG 0 gate 0;\nGATE [0110] in 0, gate 1;\nGATE [1];\nOUT reg 0;\nOUT bit 1;\n")
        self.assertEqual(circuit_text(drawn.EMPTY), "INPUTS 0;\n")
        great = (8, ((1, ("reg", 59)),) * 60, drawn.wires(2000), (("gate", 1999),) * 60)
        lines = circuit_text(great).split("\n")
        self.assertEqual((len(lines), lines[2060], lines[-2], lines[-1]), (2122, "GATE [01] gate 1998;", "OUT gate 1999;", ""))

    def test_wrong_ones(self):
        self.wrong_values(circuit_text, (drawn.HELD_RING,), 0, BadCircuit, plainly.circuit, least=200)
        rng = random.Random(1)
        self.refuses(BadCircuit, circuit_text, ((9, (), (), ()),))
        self.refuses(BadCircuit, circuit_text, (rng.randint(0, 9),))
