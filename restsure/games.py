"""A sure program as a game: own inputs are chosen against foreign ones, instant by instant."""

from restsure.errors import BadOwn, BadSignal, BadWord
from restsure.kinds import bit_rows
from restsure.sureness import sure_reach

SEEING = "seeing"
BLIND = "blind"


def own_places(inputs, own):
    """The places of own, any value, among the inputs; None unless it is a choice of them."""
    if not isinstance(own, tuple) or not all(name in inputs for name in own):
        return None
    places = [inputs.index(name) for name in own]
    if places != sorted(set(places)):
        return None
    return places


def woven_bits(places, own, foreign):
    """The bits of all inputs: the own ones at their places, the foreign ones at the others."""
    bits = []
    taken = 0
    for place in range(len(own) + len(foreign)):
        if place in places:
            bits.append(own[taken])
            taken += 1
        else:
            bits.append(foreign[place - taken])
    return tuple(bits)


class Game:
    """A sure program, and what is own in it.

    owns, foreigns: the rows of own and of foreign bits, ascending; at: by the indexes of both,
    the index of what is given; cells: by state and given the next state, None where the signal
    is there.
    """

    def __init__(self, program, own, word, signal):
        self.reach = sure_reach(program)
        places = own_places(program[0], own)
        if places is None:
            raise BadOwn("not inputs in their sequence")
        if word != SEEING and word != BLIND:
            raise BadWord("not seeing, and not blind")
        names = program[0] + program[1]
        if signal not in names:
            raise BadSignal("not an input or an output of the program")
        self.seeing = word == SEEING
        self.owns = bit_rows(len(places))
        self.foreigns = bit_rows(len(program[0]) - len(places))
        indexes = {given: index for index, given in enumerate(self.reach.rows)}
        self.at = [[indexes[woven_bits(places, mine, theirs)] for theirs in self.foreigns]
                   for mine in self.owns]
        place = names.index(signal)
        self.cells = [[None if told[0][place] else told[2] for told in state]
                      for state in self.reach.table]

    def is_hit(self, number, mine, theirs, lost):
        """Whether the signal is there, or the next state is one of the lost ones."""
        following = self.cells[number][self.at[mine][theirs]]
        return following is None or following in lost

    def first_hit(self, number, mine, lost):
        """The first foreign index that hits these own bits, None if there is none."""
        for theirs in range(len(self.foreigns)):
            if self.is_hit(number, mine, theirs, lost):
                return theirs
        return None

    def first_hit_of_all(self, number, lost):
        """The first foreign index that hits whatever own is, None if there is none."""
        for theirs in range(len(self.foreigns)):
            if all([self.is_hit(number, mine, theirs, lost) for mine in range(len(self.owns))]):
                return theirs
        return None

    def answers(self, number, lost):
        """The first foreign bits that hit whatever own is, None if own can withstand.

        If own is blind, a tuple of those that hit each of the own bits, ascending.
        """
        if self.seeing:
            theirs = self.first_hit_of_all(number, lost)
            return None if theirs is None else self.foreigns[theirs]
        told = [self.first_hit(number, mine, lost) for mine in range(len(self.owns))]
        return None if None in told else tuple([self.foreigns[theirs] for theirs in told])

    def first_safe(self, number, foreigns, lost):
        """The first own bits that none of these foreign indexes hits, None if there are none."""
        for mine, bits in enumerate(self.owns):
            if not any([self.is_hit(number, mine, theirs, lost) for theirs in foreigns]):
                return bits
        return None

    def choice(self, number, lost):
        """The first own bits that are not hit: one for all, or seeing a tuple, by foreign bits."""
        foreigns = list(range(len(self.foreigns)))
        if self.seeing:
            return tuple([self.first_safe(number, [theirs], lost) for theirs in foreigns])
        return self.first_safe(number, foreigns, lost)

    def chosen(self, choice, theirs):
        """The own bits of a choice when these foreign ones are given."""
        return choice[theirs] if self.seeing else choice

    def lost_states(self):
        """The dict from the states from which the signal can be forced to pairs (rank, answers)."""
        leads = sources_of(self.cells)
        found = {}
        rank = 0
        waiting = list(range(len(self.cells)))
        while waiting:
            rank += 1
            told = [(number, self.answers(number, found)) for number in waiting]
            more = [(number, answers) for number, answers in told if answers is not None]
            for number, answers in more:
                found[number] = (rank, answers)
            # Only a state that leads to a new one can be new in the next round.
            near = [state for number, _ in more for state in leads[number] if state not in found]
            waiting = sorted(set(near))
        return {number: found[number] for number in sorted(found)}

    def kept_states(self, lost):
        """The dict from all other states to what is chosen there."""
        return {number: self.choice(number, lost) for number in range(len(self.cells))
                if number not in lost}


def sources_of(cells):
    """By state, the list of the states that lead to it."""
    leads = [[] for _ in cells]
    for number, row in enumerate(cells):
        for following in sorted(set([cell for cell in row if cell is not None])):
            leads[following].append(number)
    return leads
