import random

from restsure.errors import BadText
from restsure.reading import read_circuit, read_program, read_rest
from restsure.writing import circuit_text, program_text, rest_text
from tests import drawn, drawnprograms, drawnwords, plaintexts
from tests.contract import Contract
from tests.drawnwords import NOTHING, PAUSE
from tests.values import every_kind

READERS = {"rest": read_rest, "program": read_program, "circuit": read_circuit}
TOKENS = """NOTHING PAUSE EMIT IF ELSE LOOP SUSPEND HOLD TRAP EXIT LOCAL INPUTS OUTPUTS RUN REG GATE OUT ; , ( ) { } [ ] ||
a o in reg gate bit abcdefgh 0 1 7 20 21 01 00 0110 10 1234567890123456 12345678901234567 abcdefghi NOTHINGS A PAUS | - _ . %
12 64 3""".split() + ["\t", "\r", "\x0b", "\u00e9", "\u0661", "\u00a0", "||| ", "a1", "EXIT0", "EMITa", "aPAUSE"]


def texts():
    """Triples of a kind, something of it and its text."""
    for rest in drawnwords.statements(90, most=12) + [NOTHING, drawnwords.chain(30)]:
        yield "rest", rest, rest_text(rest)
    for prog in drawnwords.programs(50, most=8) + drawnprograms.small_inputs(20) + [((), (), PAUSE)]:
        yield "program", prog, program_text(prog)
    for what in drawn.lots_of(70) + drawn.BY_HAND:
        yield "circuit", what, circuit_text(what)


class Reading(Contract):
    def place(self, kind, text):
        """Where the text cannot be read, None if it can."""
        try:
            READERS[kind](text)
        except BadText as error:
            return error.index
        return None

    def agrees(self, kind, text):
        """The text is read as the document tells; what comes."""
        wanted = plaintexts.read(text, kind)
        if type(wanted) is int:
            with self.assertRaises(BadText) as caught:
                READERS[kind](text)
            self.assertEqual((type(caught.exception), caught.exception.index), (BadText, wanted), repr(text[:300]))
        else:
            self.assertEqual(repr(READERS[kind](text)), repr(wanted))
        return wanted


class Texts(Reading):
    def test_what_is_read_of_a_text_is_it(self):
        for kind, thing, text in texts():
            self.assertEqual(repr(self.kept(READERS[kind], ("text",), (text,))), repr(thing))
            self.agrees(kind, text)
        for rest in (drawnwords.broad(2000), drawnwords.broad(1999), drawnwords.chain(80)):
            self.assertEqual(repr(read_rest(rest_text(rest))), repr(rest))
        what = (8, ((1, ("reg", 59)),) * 60, drawn.wires(2000), (("gate", 1999),) * 60)
        self.assertEqual(read_circuit(circuit_text(what)), what)

    def test_spaces_and_newlines_between_tokens(self):
        rng = random.Random(1)
        for kind, thing, text in texts():
            rows = plaintexts.Text(text).rows
            wide = "".join(rng.choice([" ", "\n", "  ", " \n\n "]) + row for row, _ in rows) + rng.choice(["", " ", "\n"])
            self.assertEqual(READERS[kind](wide), thing)
            # And none where rows of unlike signs meet.
            tight = rows[0][0]
            for (left, _), (right, _) in zip(rows, rows[1:]):
                same = any(left[-1] in signs and right[0] in signs for signs in
                           ("abcdefghijklmnopqrstuvwxyz", "ABCDEFGHIJKLMNOPQRSTUVWXYZ", "0123456789"))
                tight += " " * same + right
            self.assertEqual(READERS[kind](tight), thing)

    def test_parentheses_around_statements(self):
        rng = random.Random(2)

        def loose(rest):
            kind = rest[0]
            if kind in ("par", "seq"):
                text = loose(rest[1]) + {"par": "||", "seq": ";"}[kind] + loose(rest[2])
            elif kind == "if":
                text = "IF %s{%s}ELSE{%s}" % (rest[1], loose(rest[2]), loose(rest[3]))
                return rng.choice([text, "(" + text + ")"])
            elif kind in ("suspend", "hold", "local", "loop", "trap"):
                text = " ".join([kind.upper()] + list(rest[1:-1])) + "{" + loose(rest[-1]) + "}"
                return rng.choice([text, "(" + text + ")"])
            else:
                text = rest_text(rest)
                return rng.choice([text, "((" + text + "))"])
            return "(" + text + ")"
        for rest in drawnwords.statements(150, most=10):
            self.assertEqual(read_rest(loose(rest)), rest)

    def test_forms_by_hand(self):
        a, b, c = ("emit", "a"), ("emit", "b"), ("emit", "c")
        for text, rest in (("EMIT a;EMIT b||EMIT c", ("par", ("seq", a, b), c)), ("EMIT a||EMIT b;EMIT c", ("par", a, ("seq", b, c))),
                           ("EMIT a;EMIT b;EMIT c", ("seq", ("seq", a, b), c)), ("EMIT a||EMIT b||EMIT c", ("par", ("par", a, b), c)),
                           ("EMIT a;(EMIT b;EMIT c)", ("seq", a, ("seq", b, c))), ("(EMIT a||EMIT b);EMIT c", ("seq", ("par", a, b), c)),
                           ("((NOTHING))", NOTHING), ("EMIT in", ("emit", "in")), ("EXIT 20", ("exit", 20))):
            self.assertEqual(read_rest(text), rest)
            self.agrees("rest", text)
        self.assertEqual(read_program("INPUTS;OUTPUTS;RUN{PAUSE}"), ((), (), PAUSE))
        self.assertEqual(read_circuit("INPUTS 1;GATE[1];OUT bit 0;"), (1, (), (((), (1,)),), (("bit", 0),)))
        self.assertEqual(read_circuit("INPUTS 2; REG 0 gate 0; GATE [0110] in 0, in 1;"),
                         (2, ((0, ("gate", 0)),), (((("in", 0), ("in", 1)), (0, 1, 1, 0)),), ()))


class Wrong(Reading):
    def test_a_wrong_token_anywhere(self):
        rng = random.Random(3)
        told = {"read": 0, "not": 0}
        for kind, _, text in texts():
            rows = [row for row, _ in plaintexts.Text(text).rows]
            for _ in range(25):
                at = rng.randrange(len(rows) + 1)
                row = rng.choice(TOKENS)
                way = rng.randrange(4)
                if way == 0:
                    other = rows[:at] + [row] + rows[at:]
                elif way == 1:
                    other = rows[:at] + [row] + rows[at + 1:]
                elif way == 2:
                    other = rows[:at] + rows[at + 1:]
                else:
                    other = rows[:at] + rows[at:at + 1] + rows[at:]
                wanted = self.agrees(kind, rng.choice([" ", " ", "\n", "  "]).join(other))
                told["not" if type(wanted) is int else "read"] += 1
        self.assertGreater(told["not"], 4000)
        self.assertGreater(told["read"], 100)

    def test_texts_that_end_too_early(self):
        for kind, _, text in texts():
            rows = plaintexts.Text(text).rows
            for row, place in rows[:-1]:
                cut = text[:place + len(row)]
                wanted = self.agrees(kind, cut)
                if type(wanted) is int:
                    self.assertEqual(wanted, len(cut))
            self.assertEqual(self.place(kind, ""), 0)
            self.assertEqual(self.place(kind, " \n "), 3)

    def test_tokens_behind_the_end(self):
        for kind, _, text in texts():
            for row in ("PAUSE", ")", "}", "a", "0", "INPUTS", "||", ";", "OUT", "GATE", "|"):
                self.agrees(kind, text + " " + row)

    def test_drawn_signs(self):
        rng = random.Random(4)
        for kind in READERS:
            for _ in range(1500):
                self.agrees(kind, "".join(rng.choice("aA0 ;,(){}[]||\n") for _ in range(rng.randint(0, 8))))
            for _ in range(1500):
                self.agrees(kind, " ".join(rng.choice(TOKENS) for _ in range(rng.randint(1, 9))))

    def test_rows_that_are_no_tokens(self):
        for row in ("a" * 9, "A", "PAUSES", "NOTHIN", "1" * 17, "\t", "|", "-", "\u00e9", "\x00", "E", "a" * 5000, "P" * 5000, "1" * 5000, "IN"):
            self.assertEqual(self.place("rest", "PAUSE; " + row), 7)
            self.assertEqual(self.place("rest", "EMIT " + row), 5)
            self.assertEqual(self.place("rest", "EXIT " + row), 5)
            self.assertEqual(self.place("program", "INPUTS a, " + row + "; OUTPUTS; RUN {PAUSE}"), 10)
            self.assertEqual(self.place("circuit", "INPUTS " + row), 7)
            self.assertEqual(self.place("circuit", "INPUTS 0; GATE [" + row), 16)
        self.assertEqual(self.place("rest", "PAUSE |" + "| PAUSE"), None)
        self.assertEqual(self.place("rest", "PAUSE | | PAUSE"), 6)
        self.assertEqual(self.place("rest", "PAUSE ||| PAUSE"), 8)
        self.assertEqual(self.place("rest", "PAUSE\tPAUSE"), 5)
        self.assertEqual(self.place("rest", "PAUSE\r\n"), 5)

    def test_digits(self):
        for row, place in (("0", None), ("20", None), ("00", 5), ("01", 5), ("021", 5), ("21", 7), ("9999999999999999", 21),
                           ("10000000000000000", 5), ("0000000000000000", 5)):
            self.assertEqual(self.place("rest", "EXIT " + row), place)
        for text, place in (("INPUTS 8;", None), ("INPUTS 9;", 9), ("INPUTS 08;", 7), ("INPUTS 0; REG 2 bit 0;", 14),
                            ("INPUTS 0; REG 00 bit 0;", 14), ("INPUTS 0; REG 1 bit 2;", 22), ("INPUTS 0; REG 1 bit 01;", 20),
                            ("INPUTS 0; GATE [2];", 16), ("INPUTS 0; GATE [0120];", 16), ("INPUTS 0; GATE [];", 16),
                            ("INPUTS 0; GATE [00000000000000000];", 16), ("INPUTS 0; GATE [10];", 20), ("INPUTS 0; GATE [01] bit 0, bit 1;", 33),
                            ("INPUTS 0; OUT in 0;", 19), ("INPUTS 0; OUT gate 0;", 21), ("INPUTS 0; OUT regs 0;", 14), ("INPUTS;", 6)):
            self.assertEqual(self.place("circuit", text), place, text)
            self.agrees("circuit", text)

    def test_the_right_form_that_tells_nothing(self):
        long_row = "PAUSE" + "; PAUSE" * 80
        for kind, text in (("rest", "LOOP {NOTHING}"), ("rest", "LOOP {IF a {PAUSE} ELSE {EMIT b}}"), ("rest", long_row),
                           ("rest", " || ".join(["PAUSE"] * 1200)), ("program", "INPUTS; OUTPUTS; RUN {EXIT 0}"),
                           ("program", "INPUTS; OUTPUTS; RUN {EMIT a}"), ("program", "INPUTS a; OUTPUTS a; RUN {PAUSE}"),
                           ("program", "INPUTS a, a; OUTPUTS; RUN {PAUSE}"), ("program", "INPUTS a; OUTPUTS; RUN {HOLD a {PAUSE}}"),
                           ("program", "INPUTS a, b, c, d, e, f, g, h, i; OUTPUTS; RUN {PAUSE}"),
                           ("program", "INPUTS; OUTPUTS; RUN {" + "; ".join(["PAUSE"] * 41) + "}"),
                           ("circuit", "INPUTS 0; GATE [01];"), ("circuit", "INPUTS 0; GATE [01] bit 0, bit 0;"),
                           ("circuit", "INPUTS 0; GATE [01] in 0;"), ("circuit", "INPUTS 0; OUT reg 0;"), ("circuit", "INPUTS 9;"),
                           ("circuit", "INPUTS 0; GATE [0000000000000000] bit 0, bit 0, bit 0, bit 0, bit 0;"),
                           ("circuit", "INPUTS 0;" + " OUT bit 0;" * 61), ("circuit", "INPUTS 0;" + " REG 0 bit 0;" * 61),
                           ("circuit", "INPUTS 0;" + " GATE [1];" * 2001)):
            self.assertEqual(self.place(kind, text), len(text))
            self.assertEqual(self.place(kind, text + " \n"), len(text) + 2)
        self.assertIsNone(self.place("circuit", "INPUTS 0;" + " OUT bit 0;" * 60))
        self.assertIsNone(self.place("circuit", "INPUTS 0;" + " GATE [1];" * 2000))
        self.assertIsNone(self.place("rest", "PAUSE" + "; PAUSE" * 79))
        self.assertIsNone(self.place("rest", "EXIT 0"))

    def test_sequence_of_the_parts_of_a_circuit(self):
        for text, place in (("INPUTS 0; GATE [1]; REG 0 bit 0;", 20), ("INPUTS 0; OUT bit 0; GATE [1];", 21), ("REG 0 bit 0;", 0),
                            ("INPUTS 0; INPUTS 0;", 10), ("INPUTS 0; OUT bit 0", 19), ("INPUTS 0; REG bit 0;", 14), ("INPUTS 0; GATE 1;", 15)):
            self.assertEqual(self.place("circuit", text), place)
        for text, place in (("OUTPUTS; INPUTS; RUN {PAUSE}", 0), ("INPUTS; RUN {PAUSE}", 8), ("INPUTS; OUTPUTS; {PAUSE}", 17),
                            ("INPUTS; OUTPUTS; RUN PAUSE", 21), ("INPUTS; OUTPUTS; RUN {}", 22), ("INPUTS a b; OUTPUTS; RUN {PAUSE}", 9),
                            ("INPUTS a,; OUTPUTS; RUN {PAUSE}", 9), ("INPUTS , a; OUTPUTS; RUN {PAUSE}", 7),
                            ("INPUTS; OUTPUTS; RUN {PAUSE};", 28), ("INPUTS; OUTPUTS; RUN {PAUSE", 27), ("INPUTS; OUTPUTS; RUN {(PAUSE}", 28)):
            self.assertEqual(self.place("program", text), place)

    def test_brackets_that_are_open(self):
        for many in (99, 100):
            self.assertEqual(read_rest("(" * many + "PAUSE" + ")" * many), PAUSE)
        self.assertEqual(self.place("rest", "(" * 101 + "PAUSE" + ")" * 101), 100)
        self.assertEqual(self.place("rest", "(" * 5000), 100)
        self.assertEqual(self.place("rest", "(" * 100 + "LOOP {PAUSE}"), 105)
        self.assertEqual(self.place("rest", "(" * 99 + "LOOP {PAUSE}" + ")" * 99), None)
        self.assertEqual(self.place("rest", "(" * 99 + "IF a {PAUSE} ELSE {(PAUSE)}" + ")" * 99), 99 + 19)
        self.assertEqual(self.place("rest", "TRAP{" * 100 + "PAUSE" + "}" * 100), 705 - 100)
        self.assertEqual(self.place("program", "INPUTS; OUTPUTS; RUN {" + "(" * 99 + "PAUSE" + ")" * 99 + "}"), None)
        self.assertEqual(self.place("program", "INPUTS; OUTPUTS; RUN {" + "(" * 100 + "PAUSE" + ")" * 100 + "}"), 22 + 99)
        # Those that are closed do not count.
        self.assertEqual(self.place("rest", "; ".join(["((PAUSE))"] * 70)), None)
        self.assertEqual(self.place("rest", "(" * 100 + "PAUSE" + ")" * 100 + "; (" + "(" * 99 + "PAUSE" + ")" * 100), None)

    def test_great_texts(self):
        self.assertEqual(self.place("rest", "PAUSE; " * 30000 + "PAUSE"), 30000 * 7 + 5)
        self.assertEqual(self.place("rest", "PAUSE || " * 30000), 30000 * 9)
        self.assertEqual(self.place("rest", ";" * 9000), 0)
        self.assertEqual(self.place("program", "INPUTS " + "a, " * 9000 + "a; OUTPUTS; RUN {PAUSE}"), 9000 * 3 + 30)
        self.assertEqual(self.place("circuit", "INPUTS 0; GATE [1] " + "bit 0, " * 9000 + "bit 0;"), 19 + 9000 * 7 + 6)

    def test_values_that_are_no_texts(self):
        for reader in READERS.values():
            for value in every_kind():
                if isinstance(value, str):
                    continue
                with self.assertRaises(BadText) as caught:
                    reader(value)
                self.assertEqual((type(caught.exception), caught.exception.index), (BadText, 0))
