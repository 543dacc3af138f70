"""The document's words on how texts are read once more, as plainly as can be."""

import re

from tests import plainly, plainwords

KEYS = set("NOTHING PAUSE EMIT IF ELSE LOOP SUSPEND HOLD TRAP EXIT LOCAL INPUTS OUTPUTS RUN REG GATE OUT".split())
ROWS = re.compile(r"[a-z]+|[A-Z]+|[0-9]+|\|\||[^ \n]", re.DOTALL)


class Cannot(Exception):
    """A token at this place cannot stand."""


def kind_of(row):
    if re.fullmatch("[a-z]{1,8}", row):
        return "word"
    if re.fullmatch("[0-9]{1,16}", row):
        return "digits"
    if row in KEYS or row in (";", ",", "(", ")", "{", "}", "[", "]", "||"):
        return row
    return "none"


class Text:
    def __init__(self, text):
        self.rows = [(match.group(), match.start()) for match in ROWS.finditer(text)]
        self.end = len(text)
        self.level = 0

    def now(self):
        return kind_of(self.rows[0][0]) if self.rows else "end"

    def cannot(self):
        raise Cannot(self.rows[0][1] if self.rows else self.end)

    def take(self, kind, fits=lambda row: True):
        if self.now() != kind or not fits(self.rows[0][0]):
            self.cannot()
        return self.rows.pop(0)[0]

    def begin(self, bracket):
        if self.level == 100:
            self.cannot()
        self.take(bracket)
        self.level += 1

    def finish(self, bracket):
        self.take(bracket)
        self.level -= 1

    def number(self):
        return int(self.take("digits", lambda row: row == "0" or not row.startswith("0")))

    def loose(self):
        told = self.middle()
        while self.now() == "||":
            self.take("||")
            told = ("par", told, self.middle())
        return told

    def middle(self):
        told = self.tight()
        while self.now() == ";":
            self.take(";")
            told = ("seq", told, self.tight())
        return told

    def braced(self):
        self.begin("{")
        told = self.loose()
        self.finish("}")
        return told

    def tight(self):
        kind = self.now()
        if kind == "(":
            self.begin("(")
            told = self.loose()
            self.finish(")")
            return told
        if kind not in ("NOTHING", "PAUSE", "EMIT", "IF", "LOOP", "SUSPEND", "HOLD", "TRAP", "EXIT", "LOCAL"):
            self.cannot()
        told = (self.take(kind).lower(),)
        if kind in ("EMIT", "IF", "SUSPEND", "HOLD", "LOCAL"):
            told += (self.take("word"),)
        if kind == "EXIT":
            told += (self.number(),)
        if kind in ("IF", "LOOP", "SUSPEND", "HOLD", "TRAP", "LOCAL"):
            told += (self.braced(),)
        if kind == "IF":
            self.take("ELSE")
            told += (self.braced(),)
        return told

    def listed(self, one):
        told = ()
        if self.now() != ";":
            told = (one(),)
            while self.now() == ",":
                self.take(",")
                told += (one(),)
        self.take(";")
        return told

    def program(self):
        self.take("INPUTS")
        inputs = self.listed(lambda: self.take("word"))
        self.take("OUTPUTS")
        outputs = self.listed(lambda: self.take("word"))
        self.take("RUN")
        return inputs, outputs, self.braced()

    def source(self):
        return self.take("word", lambda row: row in ("in", "reg", "gate", "bit")), self.number()

    def circuit(self):
        self.take("INPUTS")
        inputs = self.number()
        self.take(";")
        registers, gates, outputs = (), (), ()
        while self.now() == "REG":
            self.take("REG")
            bit = int(self.take("digits", lambda row: row in ("0", "1")))
            registers += ((bit, self.source()),)
            self.take(";")
        while self.now() == "GATE":
            self.take("GATE")
            self.take("[")
            table = tuple(int(sign) for sign in self.take("digits", lambda row: not row.strip("01")))
            self.take("]")
            gates += ((self.listed(self.source), table),)
        while self.now() == "OUT":
            self.take("OUT")
            outputs += (self.source(),)
            self.take(";")
        return inputs, registers, gates, outputs


FORMS = {"rest": (Text.loose, plainwords.rest), "program": (Text.program, plainwords.program),
         "circuit": (Text.circuit, plainly.circuit)}


def read(text, what):
    """What is read of the text as a rest, a program or a circuit, or the place that is told."""
    if type(text) is not str:
        return 0
    form, is_right = FORMS[what]
    try:
        rows = Text(text)
        told = form(rows)
        rows.take("end")
    except IndexError:
        pass
    except Cannot as place:
        return place.args[0]
    return told if is_right(told) else len(text)
