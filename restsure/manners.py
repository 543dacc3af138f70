"""What a part does, by what it holds."""

from restsure.crowds import Crowd
from restsure.kinds import completions, reading_rows


class Manners:
    """A part, read for all readings of its inputs at once; what was read is kept.

    rows: all readings of the inputs, ascending; ways: for each of them the bits that complete it.
    """

    def __init__(self, part):
        self.part = part
        self.rows = reading_rows(part[0])
        self.ways = [completions(row) for row in self.rows]
        self.crowd = Crowd(part, len(self.rows))
        self.crowd.inputs = [self.crowd.packed([row[at] for row in self.rows]) for at in range(part[0])]
        self.kept = {}

    def columns(self, sources, gates):
        """The list, row by row, of the tuples of the readings of these sources."""
        told = [self.crowd.unpacked(self.crowd.told(source, gates)) for source in sources]
        return [tuple([column[at] for column in told]) for at in range(len(self.rows))]

    def told(self, held):
        """The pair of what shown and following tell."""
        if held not in self.kept:
            self.crowd.held = [self.crowd.bits[bit] for bit in held]
            gates, _ = self.crowd.settle()
            self.kept[held] = self.told_by(gates)
        return self.kept[held]

    def told_by(self, gates):
        """The same, of what the gates read."""
        loose = self.crowd.unpacked(tuple([(mask, 0) for mask in self.crowd.unsettled(gates)]))
        following = self.columns([source for _, source in self.part[1]], gates)
        settled = {}
        for row, is_loose, near in zip(self.rows, loose, following):
            if None not in row and not is_loose:
                settled[row] = near
        # What no bits that settle complete does not count.
        outputs = self.columns(self.part[3], gates)
        shown = [told if any(bits in settled for bits in ways) else None
                 for told, ways in zip(outputs, self.ways)]
        return tuple(shown), [(bits, settled[bits]) for bits in sorted(settled)]

    def shown(self, held):
        """The tuple, by readings of the inputs ascending, of what is told of the outputs, or None."""
        return self.told(held)[0]

    def following(self, held):
        """The list, by bits for which it settles ascending, of the pairs of these and of what is held next."""
        return self.told(held)[1]
