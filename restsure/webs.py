"""Gates and branches with bits of their own, stepped one by one."""

from restsure.kinds import is_below, is_bits, is_tuple_of


class Web:
    """The gates, then the branches, by numbers, each with its bit.

    gates is a list of pairs (sources, table), each source ("gate", g) or ("bit", b).
    """

    def __init__(self, gates, standing):
        self.tables = [table for _, table in gates]
        self.sources = []
        self.owners = []
        self.firsts = []
        self.readers = [[] for _ in gates]
        self.bits = list(standing[0])
        for gate, (sources, _) in enumerate(gates):
            self.firsts.append(len(gates) + len(self.sources))
            for source in sources:
                if source[0] == "gate":
                    self.readers[source[1]].append(len(gates) + len(self.sources))
                self.sources.append(source)
                self.owners.append(gate)
            self.bits.extend(standing[1][gate])

    def width(self, gate):
        """The number of branches into the gate."""
        if gate + 1 < len(self.tables):
            return self.firsts[gate + 1] - self.firsts[gate]
        return len(self.bits) - self.firsts[gate]

    def wanted(self, at):
        """The bit to which the one at this number comes."""
        many = len(self.tables)
        if at >= many:
            kind, worth = self.sources[at - many]
            return self.bits[worth] if kind == "gate" else worth
        place = 0
        first = self.firsts[at]
        for offset in range(self.width(at)):
            place += self.bits[first + offset] << offset
        return self.tables[at][place]

    def is_settled(self, at):
        """Whether it has the bit to which it comes."""
        return self.bits[at] == self.wanted(at)

    def step(self, at):
        """Give it the bit to which it comes."""
        self.bits[at] = self.wanted(at)

    def near(self, at):
        """The numbers of all that may be settled otherwise when the one at this number changes."""
        if at < len(self.tables):
            return [at] + self.readers[at]
        return [at, self.owners[at - len(self.tables)]]

    def standing(self):
        """The pair of the bits of the gates and the bits of their branches."""
        many = len(self.tables)
        branches = []
        for gate in range(many):
            first = self.firsts[gate]
            branches.append(tuple(self.bits[first:first + self.width(gate)]))
        return tuple(self.bits[:many]), tuple(branches)

    def number(self, element):
        """The number of a gate or a branch."""
        if element[0] == "gate":
            return element[1]
        return self.firsts[element[1]] + element[2]

    def named(self, at):
        """The gate or branch of this number."""
        if at < len(self.tables):
            return ("gate", at)
        gate = self.owners[at - len(self.tables)]
        return ("branch", gate, at - self.firsts[gate])


def is_standing_for(widths, thing):
    """Whether thing has a bit for each gate, and for so many branches of each."""
    if not is_tuple_of(thing, 2) or not is_bits(thing[0], len(widths)):
        return False
    branches = thing[1]
    if not is_tuple_of(branches, len(widths)):
        return False
    for gate, width in enumerate(widths):
        if not is_bits(branches[gate], width):
            return False
    return True


def is_element_for(widths, thing):
    """Whether thing is a gate, or a branch of a gate that has so many."""
    if not isinstance(thing, tuple) or len(thing) < 2 or not is_below(thing[1], len(widths)):
        return False
    if len(thing) == 2:
        return thing[0] == "gate"
    return len(thing) == 3 and thing[0] == "branch" and is_below(thing[2], widths[thing[1]])


def unsettled_now(web):
    """The dict that has the numbers of all that are not settled as keys."""
    return {at: True for at in range(len(web.bits)) if not web.is_settled(at)}


def step_watched(web, at, loose, waiting):
    """Step it, and keep both dicts: loose of what is not settled, waiting of what never was.

    What was settled at a moment waits no more; what is stepped is settled then.
    """
    before = web.bits[at]
    web.step(at)
    if web.bits[at] == before:
        return
    for near in web.near(at):
        if web.is_settled(near):
            loose.pop(near, None)
            waiting.pop(near, None)
        else:
            loose[near] = True
