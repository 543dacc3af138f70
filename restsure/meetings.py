"""Pairs of standings of two things, met from the first one by what both are given."""

from restsure.errors import TooMany

MOST_PAIRS = 300


class Meeting:
    """The pairs of standings that are met, up to the first one that does not fit.

    one and other tell of a standing, shown: what it does, equal exactly for those that fit; and
    following: the list, by what is given ascending, of pairs of this and the next standing.
    misfit is the number of the pair that does not fit, None if all do; ways has for each pair but
    the first one the number of that by which it was met, and what was given.
    """

    def __init__(self, one, other, first):
        self.one = one
        self.other = other
        self.pairs = [first]
        self.numbers = {first: 0}
        self.ways = [None]
        self.misfit = None
        at = 0
        while at < len(self.pairs) and self.misfit is None:
            if one.shown(self.pairs[at][0]) == other.shown(self.pairs[at][1]):
                self.go_on(at)
            else:
                self.misfit = at
            at += 1

    def go_on(self, at):
        """Meet the pairs behind the one of this number."""
        pair = self.pairs[at]
        for (given, near), (_, further) in zip(self.one.following(pair[0]), self.other.following(pair[1])):
            met = (near, further)
            if met in self.numbers:
                continue
            if len(self.pairs) == MOST_PAIRS:
                raise TooMany(MOST_PAIRS)
            self.numbers[met] = len(self.pairs)
            self.pairs.append(met)
            self.ways.append((at, given))

    def row_to(self, number):
        """The list of what is given, one behind the other, up to the pair of this number."""
        row = []
        while number > 0:
            number, given = self.ways[number]
            row.append(given)
        return list(reversed(row))


def stands(one, other, pairs):
    """Whether each of the pairs fits, and all that lead on lead to pairs among them, a dict."""
    for near, further in pairs:
        if one.shown(near) != other.shown(further):
            return False
        for (_, left), (_, right) in zip(one.following(near), other.following(further)):
            if (left, right) not in pairs:
                return False
    return True
