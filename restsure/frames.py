"""Frames that give a part bits, instant by instant, and what then tells it from another one."""

from restsure.makers import ONE, Maker, and_table, or_table

NOT = (1, 0)
# What came so far, whether it is the last instant, what comes then.
THEN = (0, 1, 0, 0, 0, 1, 1, 1)


class Framing:
    """A frame that is being made, without inputs of its own, for parts of so many outputs.

    row: what is given ahead of the last instant. Register k is 1 from the instant k + 1 on.
    """

    def __init__(self, outputs, row):
        self.outputs = outputs
        self.row = row
        self.maker = Maker()

    def ahead(self, place):
        """The source of what is given to an input ahead of the last instant."""
        source = ("bit", self.row[0][place])
        for at in range(1, len(self.row)):
            bit = self.row[at][place]
            if bit != self.row[at - 1][place]:
                source = self.maker.gate((source, ("reg", at - 1)), (0, 1, bit, bit))
        return source

    def fed(self, place, last):
        """The source of what is given to an input, last being that in the last instant."""
        if not self.row:
            return last
        return self.maker.gate((self.ahead(place), ("reg", len(self.row) - 1), last), THEN)

    def surely(self, output, bit):
        """What is unsure as long as this output of the part is, and then has the bit."""
        told = ("in", output)
        turned = self.maker.gate((told,), NOT)
        return self.maker.gate((told, turned), or_table(2) if bit else and_table(2))

    def last_sources(self, one, other, pair):
        """The sources of what is given in the last instant, in which this pair does not fit."""
        shown = list(zip(one.rows, one.shown(pair[0]), other.shown(pair[1])))
        for row, told, otherwise in shown:
            if None not in row and told != otherwise:
                return [("bit", bit) for bit in row]
        # They settle alike: some output is sure by some readings for one of both alone.
        row, told, otherwise = [item for item in shown if item[1] != item[2]][0]
        output = [at for at in range(self.outputs) if told[at] != otherwise[at]][0]
        settled = {bits: True for bits, _ in one.following(pair[0])}
        way = [bits for bits in one.ways[one.rows.index(row)] if bits in settled][0]
        return [self.surely(output, bit) if reading is None else ("bit", bit) for reading, bit in zip(row, way)]

    def circuit(self, last):
        """The frame that gives these sources in the last instant, and tells all that the part tells."""
        fed = [self.fed(place, source) for place, source in enumerate(last)]
        registers = [(0, ("reg", at - 1) if at else ONE) for at in range(len(self.row))]
        told = [("in", at) for at in range(self.outputs)]
        return self.outputs, tuple(registers), tuple(self.maker.gates), tuple(told + fed)
