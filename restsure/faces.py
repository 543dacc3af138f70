"""What standings of some signals do, whatever surrounds them."""

from restsure.kinds import bit_rows, completions, reading_rows
from restsure.plans import mask_list
from restsure.sights import Scene

CODES = (0, 1, 2, 3)


def mask_of(readings, wanted):
    """The mask of the places at which the readings are wanted."""
    return sum([1 << at for at, reading in enumerate(readings) if reading == wanted])


class Face:
    """A standing of some signals, given readings of these."""

    def __init__(self, signals, standing):
        self.scene = Scene((signals, ()), standing)
        self.many = len(signals)

    def last(self, run, given):
        """The last sight by these readings; without 1 as run the standing must nothing."""
        ones = mask_of(given, 1)
        # What may be 0: what is given 0, and locals.
        low = mask_of(given, 0) | ~self.scene.named
        more = self.scene.first
        sight = more
        while more is not None:
            sight = more
            must, can = sight.rows[0][:2]
            known = ones | must if run == 1 else ones
            more = self.scene.further(sight, known, low & ~can)
        return sight

    def reading(self, run, given):
        """The pair of the readings of the signals and of the codes."""
        must, can, code, codes, _ = self.last(run, given).rows[0]
        if run is None:
            must = 0
            code = 0
        totals = []
        for at, bit in enumerate(given):
            if bit == 1 or must >> at & 1:
                totals.append(1)
            else:
                totals.append(0 if bit == 0 and not can >> at & 1 else None)
        told = []
        for place in CODES:
            if code == 1 << place:
                told.append(1)
            else:
                told.append(None if codes >> place & 1 else 0)
        return tuple(totals), tuple(told)

    def settled(self, given):
        """The triple (totals, code, rest) by bits; None unless all is known."""
        sight = self.last(1, given)
        if not sight.is_sure():
            return None
        there = sight.rows[0][0] | mask_of(given, 1)
        totals = tuple([there >> at & 1 for at in range(self.many)])
        code = mask_list(sight.rows[0][2])[0]
        return totals, code, self.scene.ending(sight)[0] if code == 1 else None


class Faces:
    """The standings of some signals, by their texts, and what they do; what was found is kept.

    A standing may be deeper than a key may be: its text stands for it. rows: all readings of the
    signals, ascending; ways: for each of them the bits that complete it.
    """

    def __init__(self, signals):
        self.signals = signals
        self.bits = bit_rows(len(signals))
        self.rows = reading_rows(len(signals))
        self.ways = [completions(row) for row in self.rows]
        self.standings = {}
        self.kept = {}

    def text(self, standing):
        """The text of a standing, which is known from then on."""
        told = repr(standing)
        if told not in self.standings:
            self.standings[told] = standing
        return told

    def told(self, text):
        """The pair of what shown and following tell."""
        if text not in self.kept:
            self.kept[text] = self.told_anew(Face(self.signals, self.standings[text]))
        return self.kept[text]

    def told_anew(self, face):
        """The same, of a face."""
        settled = {}
        following = []
        for bits in self.bits:
            told = face.settled(bits)
            if told is None:
                continue
            settled[bits] = told[:2]
            if told[1] == 1:
                following.append((bits, self.text(told[2])))
        opened = []
        for row, ways in zip(self.rows, self.ways):
            # What no bits that settle complete does not count.
            counts = any(bits in settled for bits in ways)
            opened.append(face.reading(1, row) if counts else None)
        unrun = [face.reading(None, row) for row in self.rows]
        shown = ([settled.get(bits) for bits in self.bits], opened, unrun)
        return shown, following

    def shown(self, text):
        """A triple: by bits, totals and code, or None; by readings, what is told, or None; likewise not run."""
        return self.told(text)[0]

    def following(self, text):
        """The list, by bits for which it pauses ascending, of the pairs of these and of the rest."""
        return self.told(text)[1]
