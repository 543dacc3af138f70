"""Rest statements, programs and circuits read of texts."""

from restsure.circuits import is_circuit
from restsure.errors import BadText
from restsure.kinds import is_signal
from restsure.plans import rest_plan
from restsure.statements import is_program

SMALL = "abcdefghijklmnopqrstuvwxyz"
CAPITALS = "ABCDEFGHIJKLMNOPQRSTUVWXYZ"
DIGITS = "0123456789"
BESIDE = "||"
MOST_DIGITS = 16
MOST_BRACKETS = 100
SOURCES = ("in", "reg", "gate", "bit")
# Keys with nothing behind them, with a statement, with a signal and a statement.
ALONE = {"NOTHING": "nothing", "PAUSE": "pause"}
AROUND = {"LOOP": "loop", "TRAP": "trap"}
WITH_SIGNAL = {"SUSPEND": "suspend", "HOLD": "hold", "LOCAL": "local", "IF": "if"}


def row_end(text, at):
    """Where the token ends that begins here."""
    for signs in (SMALL, CAPITALS, DIGITS):
        if text[at] in signs:
            end = at
            while end < len(text) and text[end] in signs:
                end += 1
            return end
    return at + 2 if text[at:at + 2] == BESIDE else at + 1


def tokens_of(text):
    """The list of the pairs (token, place); what stands behind the last one is an empty token."""
    told = []
    at = 0
    while at < len(text):
        if text[at] in " \n":
            at += 1
            continue
        end = row_end(text, at)
        told.append((text[at:end], at))
        at = end
    told.append(("", len(text)))
    return told


def is_digits(token):
    """Whether a token is a row of 1 to 16 digits."""
    return 1 <= len(token) <= MOST_DIGITS and all(sign in DIGITS for sign in token)


class Frame:
    """An open bracket: what ends it, what is told of the statement around it, what stands in it.

    beside and behind: the statements so far with || between them, and with ; between them.
    """

    def __init__(self, close, head):
        self.close = close
        self.head = head
        self.beside = None
        self.behind = None

    def take(self, part):
        """Put one more statement behind the last ones."""
        self.behind = part if self.behind is None else ("seq", self.behind, part)

    def whole(self):
        """All that stands in it."""
        return self.behind if self.beside is None else ("par", self.beside, self.behind)

    def begin_beside(self):
        """What comes now stands beside all that came."""
        self.beside = self.whole()
        self.behind = None


class Reader:
    """The tokens of a text, how many of them are read, and how many brackets are open."""

    def __init__(self, text):
        self.tokens = tokens_of(text)
        self.at = 0
        self.deep = 0

    def token(self):
        """The token that is read next."""
        return self.tokens[self.at][0]

    def next_one(self, is_right):
        """Read a token that is right; BadText with its place if it is not."""
        token, place = self.tokens[self.at]
        if not is_right:
            raise BadText(place)
        self.at += 1
        return token

    def expect(self, token):
        """Read just this token."""
        self.next_one(self.token() == token)

    def word(self):
        """Read a word."""
        return self.next_one(is_signal(self.token()))

    def number(self):
        """Read a number."""
        token = self.token()
        return int(self.next_one(is_digits(token) and (token == "0" or token[0] != "0")))

    def bits(self):
        """Read digits 0 and 1."""
        token = self.token()
        self.next_one(is_digits(token) and all(sign in "01" for sign in token))
        return tuple([int(sign) for sign in token])

    def source(self):
        """Read a source."""
        kind = self.next_one(self.token() in SOURCES)
        return kind, self.number()

    def listed(self, is_word):
        """Read words, or sources, with marks between them, and the mark that ends them."""
        rows = []
        if self.token() != ";":
            rows.append(self.word() if is_word else self.source())
            while self.token() == ",":
                self.expect(",")
                rows.append(self.word() if is_word else self.source())
        self.expect(";")
        return tuple(rows)

    def begin(self, bracket):
        """Read a bracket, unless too many are open."""
        self.next_one(self.token() == bracket and self.deep < MOST_BRACKETS)
        self.deep += 1

    def atom(self, frames):
        """Read a statement without others in it; None if a bracket is begun, which is put into frames."""
        token = self.token()
        if token == "(":
            self.begin("(")
            frames.append(Frame(")", ()))
            return None
        if token in ALONE:
            self.expect(token)
            return (ALONE[token],)
        if token == "EMIT":
            self.expect(token)
            return "emit", self.word()
        if token == "EXIT":
            self.expect(token)
            return "exit", self.number()
        self.next_one(token in AROUND or token in WITH_SIGNAL)
        head = (AROUND[token],) if token in AROUND else (WITH_SIGNAL[token], self.word())
        self.begin("{")
        frames.append(Frame("}", head))
        return None

    def closed(self, frame, frames):
        """The statement whose bracket is closed; None if it goes on with another bracket."""
        self.expect(frame.close)
        self.deep -= 1
        told = frame.head + (frame.whole(),)
        if frame.head == ():
            return frame.whole()
        if frame.head[0] == "if" and len(frame.head) == 2:
            self.expect("ELSE")
            self.begin("{")
            frames.append(Frame("}", told))
            return None
        return told

    def statement(self, close):
        """Read a statement up to what closes it, a bracket or the end."""
        frames = [Frame(close, ())]
        while True:
            part = self.atom(frames)
            while part is not None:
                frame = frames[-1]
                frame.take(part)
                part = None
                if self.token() == frame.close:
                    frames.pop()
                    if not frames:
                        return frame.whole()
                    part = self.closed(frame, frames)
                elif self.token() == BESIDE:
                    self.expect(BESIDE)
                    frame.begin_beside()
                else:
                    self.expect(";")

    def program(self):
        """Read a program."""
        self.expect("INPUTS")
        inputs = self.listed(True)
        self.expect("OUTPUTS")
        outputs = self.listed(True)
        self.expect("RUN")
        self.begin("{")
        body = self.statement("}")
        self.expect("}")
        return inputs, outputs, body

    def circuit(self):
        """Read a circuit."""
        self.expect("INPUTS")
        inputs = self.number()
        self.expect(";")
        registers = []
        while self.token() == "REG":
            self.expect("REG")
            bit = int(self.next_one(self.token() in ("0", "1")))
            registers.append((bit, self.source()))
            self.expect(";")
        gates = []
        while self.token() == "GATE":
            self.expect("GATE")
            self.expect("[")
            table = self.bits()
            self.expect("]")
            gates.append((self.listed(False), table))
        outputs = []
        while self.token() == "OUT":
            self.expect("OUT")
            outputs.append(self.source())
            self.expect(";")
        return inputs, tuple(registers), tuple(gates), tuple(outputs)


def reader_of(text):
    """The reader of a text; BadText(0) unless it is a str."""
    if not isinstance(text, str):
        raise BadText(0)
    return Reader(text)


def read_rest(text):
    """The rest statement of which this is a text."""
    reader = reader_of(text)
    rest = reader.statement("")
    if rest_plan(rest) is None:
        raise BadText(len(text))
    return rest


def read_program(text):
    """The program of which this is a text."""
    reader = reader_of(text)
    program = reader.program()
    reader.expect("")
    if not is_program(program):
        raise BadText(len(text))
    return program


def read_circuit(text):
    """The circuit of which this is a text."""
    reader = reader_of(text)
    circuit = reader.circuit()
    reader.expect("")
    if not is_circuit(circuit):
        raise BadText(len(text))
    return circuit
