"""Gates that are made one by one, some of them before their sources are known."""

from restsure.circuits import MOST_GATES, MOST_SOURCES
from restsure.errors import TooMany

ZERO = ("bit", 0)
ONE = ("bit", 1)


class Maker:
    """The gates made so far; TooMany if more are wanted than a circuit may have."""

    def __init__(self):
        self.gates = []
        self.made = {}

    def later(self):
        """A gate that settle gives its sources and its table."""
        if len(self.gates) == MOST_GATES:
            raise TooMany(MOST_GATES)
        self.gates.append(None)
        return ("gate", len(self.gates) - 1)

    def settle(self, gate, sources, table):
        """Give a gate what it waited for."""
        self.gates[gate[1]] = (tuple(sources), table)

    def gate(self, sources, table):
        """A gate of these sources and this table: the same one for the same ones."""
        key = (tuple(sources), table)
        if key not in self.made:
            made = self.later()
            self.settle(made, sources, table)
            self.made[key] = made
        return self.made[key]

    def bundled(self, sources, table):
        """At most as many sources as a gate may have, by gates of this table around as many."""
        rows = list(sources)
        while len(rows) > MOST_SOURCES:
            rows = rows[MOST_SOURCES:] + [self.gate(rows[:MOST_SOURCES], table)]
        return rows

    def any_of(self, sources):
        """What is 1 exactly if one of the sources is."""
        rows = [source for source in sources if source != ZERO]
        if not rows:
            return ZERO
        if len(rows) == 1:
            return rows[0]
        rows = self.bundled(rows, or_table(MOST_SOURCES))
        return self.gate(rows, or_table(len(rows)))

    def all_of(self, sources):
        """What is 1 exactly if all of the sources are."""
        if ZERO in sources:
            return ZERO
        rows = [source for source in sources if source != ONE]
        if not rows:
            return ONE
        if len(rows) == 1:
            return rows[0]
        rows = self.bundled(rows, and_table(MOST_SOURCES))
        return self.gate(rows, and_table(len(rows)))

    def settle_any(self, gate, sources):
        """Let a gate that waits be 1 exactly if one of the sources is."""
        rows = [source for source in sources if source != ZERO]
        rows = self.bundled(rows, or_table(MOST_SOURCES))
        self.settle(gate, rows, or_table(len(rows)))


def or_table(many):
    """The table that has 1 where one of so many sources has."""
    return (0,) + (1,) * ((1 << many) - 1)


def and_table(many):
    """The table that has 1 where all of so many sources have."""
    return (0,) * ((1 << many) - 1) + (1,)
