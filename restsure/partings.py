"""Surroundings that tell pieces apart."""

from restsure.errors import TooMany
from restsure.faces import CODES
from restsure.pieces import pieces_meeting

MOST_AHEAD = 19
MOST_PARTED = 20
NOTHING = ("nothing",)
PAUSE = ("pause",)
PLACE = ("hole",)


def fresh_names(signals):
    """Two signals that are not among these, for what is watched and for what holds the hole back."""
    names = [name for name in ("a", "b", "c", "d", "e") if name not in signals]
    return names[0], names[1]


def trapped(part):
    """A statement in a trap."""
    return ("trap", part)


def in_row(parts):
    """Some statements one behind the other, in few levels."""
    if len(parts) == 1:
        return parts[0]
    half = len(parts) // 2
    return ("seq", in_row(parts[:half]), in_row(parts[half:]))


def delayed(many, part):
    """A statement behind so many pauses."""
    if many == 0:
        return part
    return ("seq", in_row([PAUSE] * many), part)


def watched(code, signal, ahead):
    """Surroundings that emit the signal exactly if the hole has this code, for 1 behind so many pauses."""
    tell = ("emit", signal)
    near = trapped(PLACE)
    if code == 0:
        return trapped(trapped(("seq", PLACE, tell)))
    if code == 2:
        # Where the hole just ends it is led past what is told.
        return trapped(("seq", trapped(("seq", PLACE, ("exit", 1))), tell))
    if code == 3:
        return trapped(("seq", trapped(("seq", near, ("exit", 1))), tell))
    # A hole that does not pause goes out further than what breaks it off then.
    led = ("seq", trapped(near), ("exit", 1))
    return trapped(("seq", trapped(("par", led, delayed(ahead, ("exit", 0)))), tell))


def chosen(signal, bit, one, other):
    """What runs one if the signal has this bit, and the other one if it has not."""
    return ("if", signal, one, other) if bit else ("if", signal, other, one)


class Watching:
    """What is sure of one of two standings alone, and by which readings of the signals.

    mark: the place of a signal, or None; code: the code, or None; bit: what it is surely.
    """

    def __init__(self, given, told, otherwise):
        self.given = given
        self.mark = None
        self.code = None
        self.bit = None
        for place, pair in enumerate(zip(told[0], otherwise[0])):
            if pair[0] != pair[1]:
                self.mark = place
                self.bit = pair[0] if pair[1] is None else pair[1]
        for code, pair in zip(CODES, list(zip(told[1], otherwise[1]))):
            if self.mark is None and pair[0] != pair[1]:
                self.code = code
                self.bit = pair[0] if pair[1] is None else pair[1]


class Parting:
    """Two pieces with a pair of standings, met behind a row, that does not fit."""

    def __init__(self, meeting):
        self.faces = meeting.one
        self.signals = self.faces.signals
        self.row = meeting.row_to(meeting.misfit)
        pair = meeting.pairs[meeting.misfit]
        self.shown = [self.faces.shown(text) for text in pair]
        self.tell, self.back = fresh_names(self.signals)

    def unlike(self, place, keys):
        """The first key, with what is told of it by both, at which they are unlike; None without one."""
        for key, told, otherwise in zip(keys, self.shown[0][place], self.shown[1][place]):
            if told != otherwise:
                return key, told, otherwise
        return None

    def surroundings(self):
        """The triple of surroundings, outputs and rows that tells both apart."""
        found = self.unlike(0, self.faces.bits)
        if found is not None:
            return self.by_bits(found[0], found[1], found[2])
        found = self.unlike(1, self.faces.rows)
        if found is not None:
            return self.by_run(Watching(found[0], found[1], found[2]))
        found = self.unlike(2, self.faces.rows)
        return self.by_hold(Watching(found[0], found[1], found[2]))

    def by_bits(self, bits, told, otherwise):
        """What tells them apart if they are unlike for bits."""
        rows = self.row + [bits]
        if told is None or otherwise is None or told[0] != otherwise[0]:
            return trapped(trapped(PLACE)), (), rows
        code = told[1] if told[1] != 1 else otherwise[1]
        return watched(code, self.tell, len(self.row)), (self.tell,), rows

    def seen(self, watch):
        """The pair of what is watched around the hole, and of the signal that tells it."""
        if watch.code is None:
            return trapped(trapped(PLACE)), self.signals[watch.mark]
        return watched(watch.code, self.tell, len(self.row)), self.tell

    def last_bits(self, watch):
        """What is given in the last instant: what is unsure is emitted then, or is not."""
        return tuple([1 if reading == 1 else 0 for reading in watch.given])

    def feeds(self, watch, signal, way):
        """The statements that emit what is unsure by way, as soon as the signal has its bit."""
        told = []
        for name, reading, bit in zip(self.signals, watch.given, way):
            if reading is None:
                emit = ("emit", name)
                told.append(chosen(signal, watch.bit, emit if bit else NOTHING, NOTHING if bit else emit))
        return told

    def by_run(self, watch):
        """What tells them apart if they are unlike for readings that bits complete for which they settle."""
        around, signal = self.seen(watch)
        settled = {bits: told for bits, told in zip(self.faces.bits, self.shown[0][0]) if told is not None}
        ways = self.faces.ways[self.faces.rows.index(watch.given)]
        way = [bits for bits in ways if bits in settled][0]
        last = self.feeds(watch, signal, way)
        whole = ("par", around, delayed(len(self.row), beside(last)))
        return whole, (self.tell,), self.row + [self.last_bits(watch)]

    def by_hold(self, watch):
        """What tells them apart if they are unlike where it is not sure whether they are run."""
        around, signal = self.seen(watch)
        last = self.feeds(watch, signal, (0,) * len(self.signals))
        emit = ("emit", self.back)
        if self.row:
            # It is held back as soon as the signal surely is not there.
            held = ("suspend", self.back, around)
            last.append(chosen(signal, watch.bit, emit, NOTHING))
        else:
            held = ("if", self.back, around, NOTHING)
            last.append(chosen(signal, watch.bit, NOTHING, emit))
        whole = ("par", held, delayed(len(self.row), beside(last)))
        return whole, (self.tell, self.back), self.row + [self.last_bits(watch)]


def beside(parts):
    """Some statements side by side."""
    whole = parts[0]
    for part in parts[1:]:
        whole = ("par", whole, part)
    return whole


def pieces_parting(one, other):
    """The triple of surroundings, outputs and rows that tells two pieces apart; None if they do alike."""
    meeting = pieces_meeting(one, other)
    if meeting.misfit is None:
        return None
    if len(meeting.row_to(meeting.misfit)) > MOST_AHEAD:
        raise TooMany(MOST_PARTED)
    return Parting(meeting).surroundings()
