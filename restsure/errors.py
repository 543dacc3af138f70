"""The errors of the package: all of them stand directly below RestError."""


class RestError(ValueError):
    """What all errors of this package are."""


class BadCases(RestError):
    """Not a list of cases."""


class BadCircuit(RestError):
    """Not a circuit."""


class BadCode(RestError):
    """Not a straight code."""


class BadDiagram(RestError):
    """Not a reduced diagram."""


class BadElement(RestError):
    """Not a gate or a branch of the circuit."""


class BadFrame(RestError):
    """Not a frame for the part."""


class BadGiven(RestError):
    """Not what the inputs may be given."""


class BadHeld(RestError):
    """Not what the registers may hold."""


class BadLine(RestError):
    """Not a line of the circuit."""


class BadLot(RestError):
    """Not a lot of unsure gates."""


class BadMachine(RestError):
    """Not a machine."""


class BadModule(RestError):
    """Not a module."""


class BadName(RestError):
    """Not a name."""


class BadNames(RestError):
    """Not the names that are wanted."""


class BadNumber(RestError):
    """Not a number that fits."""


class BadOrder(RestError):
    """Not an order of the circuit."""


class BadOwn(RestError):
    """Not a choice of inputs."""


class BadPart(RestError):
    """Not a part."""


class BadPath(RestError):
    """Not a path that leads where it must."""


class BadPicks(RestError):
    """Not a list of picks."""


class BadPiece(RestError):
    """Not a piece."""


class BadProgram(RestError):
    """Not a program."""


class BadReadings(RestError):
    """Not the readings that are wanted."""


class BadRest(RestError):
    """Not a rest statement."""


class BadRow(RestError):
    """Not a row of inputs."""


class BadRows(RestError):
    """Not rows of inputs."""


class BadRun(RestError):
    """Not 1 or None."""


class BadSignal(RestError):
    """Not a signal that fits."""


class BadSignals(RestError):
    """Not the signals of a piece."""


class BadStanding(RestError):
    """Not a standing."""


class BadStart(RestError):
    """Not the bits to start with."""


class BadState(RestError):
    """Not a state."""


class BadStatement(RestError):
    """Not a statement."""


class BadSteps(RestError):
    """Not a list of steps."""


class BadSurroundings(RestError):
    """Not surroundings."""


class BadTable(RestError):
    """Not the table of a gate."""


class BadText(RestError):
    """A text that cannot be read, from the place index on."""

    def __init__(self, index):
        super().__init__("the text cannot be read")
        self.index = index


class BadWord(RestError):
    """Not a word that is known."""


class Caught(RestError):
    """A signal that would be caught by a local of the same name."""

    def __init__(self, signal):
        super().__init__("a signal is caught by a local")
        self.signal = signal


class Lost(RestError):
    """The signal cannot be kept away."""


class Missing(RestError):
    """A module that is run and not here."""

    def __init__(self, name):
        super().__init__("a module is missing")
        self.name = name


class NotFitting(RestError):
    """A module with a run that does not fit."""

    def __init__(self, name):
        super().__init__("a run does not fit its module")
        self.name = name


class NotHere(RestError):
    """No module has this name."""


class NotPlain(RestError):
    """A machine that emits its own inputs."""


class NotProgram(RestError):
    """What comes is not a program."""


class NotSure(RestError):
    """A program that is not sure, as the row shows."""

    def __init__(self, row):
        super().__init__("the program is not sure")
        self.row = row


class NothingDone(RestError):
    """There is no deed to take back."""


class NothingUndone(RestError):
    """There is no deed to do again."""


class Ring(RestError):
    """A module that leads back to itself."""

    def __init__(self, name):
        super().__init__("a module leads back to itself")
        self.name = name


class TooMany(RestError):
    """There is more than is done."""

    def __init__(self, most):
        super().__init__("there is more than is done")
        self.most = most


class Unlike(RestError):
    """Two things that do not have the same inputs and outputs."""


class Unsure(RestError):
    """The case of this index does not make the circuit whole."""

    def __init__(self, index):
        super().__init__("a case is not sure")
        self.index = index


class Wide(RestError):
    """A machine would have more outputs than a machine may have."""

    def __init__(self, most):
        super().__init__("there are more outputs than a machine may have")
        self.most = most
