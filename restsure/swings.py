"""Fair loops of least lots: changes that are sent round a ring for ever."""

from restsure.lots import table_index


class Swing:
    """How the gates of a least lot follow one place each.

    chosen: from each gate the place it follows, as an offset among its live places; follows: from
    each gate the source there; fixed: from each gate the bits at its live places, of which the one
    at the chosen place is exchanged; rings: the lists of the gates on the rings of this following,
    each behind the one it follows; twigs: from each gate the gates off the rings that follow it.
    """

    def __init__(self, lives, lot):
        self.lives = lives
        self.chosen = {}
        self.follows = {}
        self.fixed = {}
        for gate in lot:
            offset, bits = followed(lives[gate], gate)
            self.chosen[gate] = offset
            self.follows[gate] = lives[gate].sources[offset]
            self.fixed[gate] = bits
        self.rings = rings_of_following(self.follows)
        ringed = {gate: True for ring in self.rings for gate in ring}
        self.twigs = {gate: [] for gate in lot}
        for gate in lot:
            if gate not in ringed:
                self.twigs[self.follows[gate]].append(gate)

    def reply(self, gate, bit):
        """The bit to which the gate comes if it has this bit at its chosen place."""
        bits = list(self.fixed[gate])
        bits[self.chosen[gate]] = bit
        return self.lives[gate].table[table_index(bits)]

    def wish(self, gate):
        """The bit at its chosen place with which the gate comes to 0."""
        return 0 if self.reply(gate, 0) == 0 else 1

    def branch(self, gate):
        """The chosen branch of the gate."""
        return ("branch", gate, self.lives[gate].places[self.chosen[gate]])

    def grown(self, gate):
        """The gates off the rings that follow this one, near ones ahead of far ones."""
        found = [gate]
        done = 0
        while done < len(found):
            found.extend(self.twigs[found[done]])
            done += 1
        return found[1:]


def bits_around(live, offset, turned):
    """The first bits at the live places, 0 at this one, where it exchanges the bit of the gate.

    If turned, a 1 at this place must make a 0 of the gate there. None without such bits.
    """
    worth = 1 << offset
    for index, low in enumerate(live.table):
        if index & worth:
            continue
        high = live.table[index + worth]
        if low > high or (low < high and not turned):
            return [index >> place & 1 for place in range(len(live.places))]
    return None


def followed(live, gate):
    """The place that the gate follows, and the bits at its places; None if it only raises itself.

    It is a place by another gate, or one by itself that turns it: a ring of one gate that
    follows itself straight would come to rest.
    """
    for offset, source in enumerate(live.sources):
        if source != gate:
            return offset, bits_around(live, offset, False)
    for offset in range(len(live.places)):
        bits = bits_around(live, offset, True)
        if bits is not None:
            return offset, bits
    return None


def only_raises_itself(lives, lot):
    """Whether the lot is one gate that each of its live places, all its own, only raises."""
    return len(lot) == 1 and followed(lives[lot[0]], lot[0]) is None


def rings_of_following(follows):
    """The rings of gates each of which follows the one ahead, the first one the last."""
    marks = {}
    found = []
    for start in follows:
        way = []
        gate = start
        while gate not in marks:
            marks[gate] = start
            way.append(gate)
            gate = follows[gate]
        # Only a way that comes to itself, not to an earlier one, has closed a new ring.
        if marks[gate] == start:
            ring = way[way.index(gate):]
            found.append(list(reversed(ring)))
    return found


def begin_ring(swing, ring, bits, at_branch):
    """Give the ring bits with which all of it is settled, but for its first branch, if it turns."""
    bits[ring[0]] = 0
    at_branch[ring[0]] = swing.wish(ring[0])
    for gate in ring[1:]:
        at_branch[gate] = bits[swing.follows[gate]]
        bits[gate] = swing.reply(gate, at_branch[gate])


def ring_steps(swing, ring, bits, at_branch):
    """The steps of the ring twice round; bits and at_branch are set to where they begin."""
    begin_ring(swing, ring, bits, at_branch)
    round_once = []
    for gate in ring:
        round_once.extend([swing.branch(gate), ("gate", gate)])
    if at_branch[ring[0]] != bits[ring[-1]]:
        return round_once + round_once
    # All of it would be settled: it is given one change more at its first gate, and the way
    # back of this change follows two steps behind its way there.
    bits[ring[0]] = 1
    steps = []
    many = len(round_once)
    for offset in range(many):
        steps.append(round_once[(offset + 2) % many])
        steps.append(round_once[(offset + 1) % many])
    return steps


def follow_off_rings(swing, steps):
    """The steps, behind each one of a gate those of all gates off the rings that follow it."""
    told = []
    for step in steps:
        told.append(step)
        if step[0] == "gate":
            for gate in swing.grown(step[1]):
                told.extend([swing.branch(gate), ("gate", gate)])
    return told


def fair_loop(lives, lot):
    """A fair loop of a least lot that does not only raise itself, of 4 steps for each gate."""
    swing = Swing(lives, lot)
    bits = {}
    at_branch = {}
    steps = []
    for ring in swing.rings:
        steps.extend(follow_off_rings(swing, ring_steps(swing, ring, bits, at_branch)))
        for start in ring:
            for gate in swing.grown(start):
                at_branch[gate] = bits[swing.follows[gate]]
                bits[gate] = swing.reply(gate, at_branch[gate])
    branches = []
    for gate in lot:
        row = list(swing.fixed[gate])
        row[swing.chosen[gate]] = at_branch[gate]
        branches.append(tuple(row))
    return (tuple([bits[gate] for gate in lot]), tuple(branches)), tuple(steps)
