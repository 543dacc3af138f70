"""The gates of a circuit read at many cases at once."""

from restsure.cases import gate_readers
from restsure.unringed import rings_told

# So many cases stand side by side in one number; what is more stands in further lanes.
MOST_ABREAST = 2048


class Crowd:
    """So many cases of a circuit, read side by side.

    What something reads at all of them is a tuple of pairs (ones, zeros), one for each lane: the
    masks of the cases at which it is 1, and 0. inputs and held are lists of such readings.
    """

    def __init__(self, circuit, many):
        self.circuit = circuit
        self.many = many
        self.fulls = [(1 << min(MOST_ABREAST, many - start)) - 1 for start in range(0, many, MOST_ABREAST)]
        self.none = tuple([(0, 0) for _ in self.fulls])
        self.bits = (tuple([(0, full) for full in self.fulls]), tuple([(full, 0) for full in self.fulls]))
        self.inputs = []
        self.held = []
        self.lots = None

    def packed(self, readings):
        """What reads like this, case by case."""
        told = []
        for start in range(0, self.many, MOST_ABREAST):
            one = 0
            zero = 0
            for at, reading in enumerate(readings[start:start + MOST_ABREAST]):
                if reading == 1:
                    one = one | 1 << at
                elif reading == 0:
                    zero = zero | 1 << at
            told.append((one, zero))
        return tuple(told)

    def unpacked(self, told):
        """The list of the readings, case by case."""
        readings = []
        for at in range(self.many):
            one, zero = told[at // MOST_ABREAST]
            place = at % MOST_ABREAST
            if one >> place & 1:
                readings.append(1)
            else:
                readings.append(0 if zero >> place & 1 else None)
        return readings

    def at_start(self):
        """The list of what the gates read when none of them is known."""
        return [self.none for _ in self.circuit[2]]

    def told(self, source, gates):
        """What a source reads, gates being what the gates read."""
        kind, at = source
        if kind == "gate":
            return gates[at]
        if kind == "in":
            return self.inputs[at]
        return self.held[at] if kind == "reg" else self.bits[at]

    def read(self, gate, gates):
        """What a gate reads by its sources."""
        sources, table = self.circuit[2][gate]
        rows = [self.told(source, gates) for source in sources]
        return tuple([lane_reading(table, [row[lane] for row in rows], full)
                      for lane, full in enumerate(self.fulls)])

    def step(self, gate, gates):
        """Let a gate get its reading; whether it is a new one."""
        told = self.read(gate, gates)
        if told == gates[gate]:
            return False
        gates[gate] = told
        return True

    def go_along(self, line, gates):
        """Let the gates of the line get their readings, each in its turn."""
        for gate in line:
            gates[gate] = self.read(gate, gates)

    def settle(self):
        """The pair of the sure readings of the gates, and a line that brings them.

        In each round of a ring one gate more of each case becomes sure, so a ring of k gates has
        at most k rounds, each with at most k gates.
        """
        if self.lots is None:
            self.lots = lots_with_readers(self.circuit)
        gates = self.at_start()
        line = []
        for lot, readers in self.lots:
            near = lot
            forth = True
            while near:
                news = [gate for gate in near if self.step(gate, gates)]
                line.extend(news)
                further = sorted(set([reader for gate in news for reader in readers[gate]]))
                # To and fro: whichever way a ring goes, one of both rounds goes along it.
                near = list(reversed(further)) if forth else further
                forth = not forth
        return gates, line

    def unsettled(self, gates):
        """The list, lane by lane, of the masks of the cases at which some gate is None."""
        missing = []
        for lane, full in enumerate(self.fulls):
            known = full
            for gate in gates:
                known = known & (gate[lane][0] | gate[lane][1])
            missing.append(full - known)
        return missing


def lots_with_readers(circuit):
    """The rings and other gates in the order in which they lean on one another.

    Each is a pair of a list of gates, and of the dict from these to those of them that read them.
    """
    readers = gate_readers(circuit)
    return [(lot, readers_among(lot, readers)) for lot, _ in rings_told(circuit)]


def readers_among(lot, readers):
    """The dict from the gates of a lot to those of them that read them."""
    told = {gate: [] for gate in lot}
    for gate in lot:
        told[gate].extend([reader for reader in readers[gate] if reader in told])
    return told


def lane_reading(table, rows, full):
    """The pair (ones, zeros) of a gate by those of its sources, in one lane."""
    ways = [(full, 0) if bit else (0, full) for bit in table]
    for one, zero in rows:
        # The half of the table for 0 does not count where the source is 1, and the other way round.
        ways = [((one | ways[at][0]) & (zero | ways[at + 1][0]), (one | ways[at][1]) & (zero | ways[at + 1][1]))
                for at in range(0, len(ways), 2)]
    return ways[0]


def first_case(masks):
    """The index of the first case in masks of all lanes, None if there is none."""
    for lane, mask in enumerate(masks):
        if mask:
            return lane * MOST_ABREAST + (mask & -mask).bit_length() - 1
    return None


def crowd_of(circuit, cases):
    """The crowd of these cases, pairs (given, held)."""
    crowd = Crowd(circuit, len(cases))
    for at in range(circuit[0]):
        crowd.inputs.append(crowd.packed([given[at] for given, _ in cases]))
    for at in range(len(circuit[1])):
        crowd.held.append(crowd.packed([held[at] for _, held in cases]))
    return crowd


def crowd_of_one(circuit, many, given, held):
    """The crowd of one case, so many times."""
    crowd = Crowd(circuit, many)
    crowd.inputs = [crowd.bits[bit] for bit in given]
    crowd.held = [crowd.bits[bit] for bit in held]
    return crowd
