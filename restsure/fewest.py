"""Shortest lines, with papers that show that there is none that is shorter."""

from restsure.cases import gate_readers
from restsure.circuits import check_circuit
from restsure.crowds import crowd_of
from restsure.errors import TooMany
from restsure.kinds import is_number, is_readings, is_tuple_of
from restsure.lines import check_cases, check_line, check_whole, is_line, settles_all

MOST_STANDINGS = 3000


class Spread:
    """Standings told case by case; what is the same in many of them is made once.

    columns: by what a gate reads, the list of its readings; rows: the readings of all gates.
    """

    def __init__(self, crowd):
        self.crowd = crowd
        self.columns = {}
        self.rows = {}

    def column(self, told):
        """The list of the readings, case by case, of a gate that reads this."""
        if told not in self.columns:
            self.columns[told] = self.crowd.unpacked(told)
        return self.columns[told]

    def row(self, readings):
        """The tuple of these readings, the same one each time."""
        return self.rows.setdefault(readings, readings)

    def standing(self, gates):
        """The standing in which the gates read this."""
        columns = [self.column(gate) for gate in gates]
        return tuple([self.row(tuple([column[case] for column in columns])) for case in range(self.crowd.many)])


def standing_behind(circuit, line, cases):
    """The tuple, case by case, of the tuples of the readings of the gates along the line."""
    check_line(circuit, line)
    check_cases(circuit, cases)
    crowd = crowd_of(circuit, cases)
    gates = crowd.at_start()
    crowd.go_along(line, gates)
    return Spread(crowd).standing(gates)


class Search:
    """The standings behind lines, as tuples of what the gates read, shorter lines first.

    depths: by standing, how many steps lead there at least; ways: for each but the first one the
    pair (standing, gate) by which it was found; news: the dict from the gates that would get new
    readings to these, for the standings that are not left yet.
    """

    def __init__(self, crowd):
        self.crowd = crowd
        self.readers = gate_readers(crowd.circuit)
        first = crowd.at_start()
        self.found = [tuple(first)]
        self.numbers = {self.found[0]: 0}
        self.depths = [0]
        self.ways = [None]
        self.news = [self.fresh(first, range_of(first), {})]
        at = 0
        while at < len(self.found):
            self.leave(at)
            at += 1

    def fresh(self, gates, near, known):
        """known, with the new readings of the gates near by, if they would get new ones."""
        for gate in near:
            told = self.crowd.read(gate, gates)
            if told != gates[gate]:
                known[gate] = told
        return known

    def leave(self, at):
        """Find all standings that are one step from the one of this number."""
        ahead = self.news[at]
        self.news[at] = None
        for gate, told in ahead.items():
            gates = list(self.found[at])
            gates[gate] = told
            standing = tuple(gates)
            if standing in self.numbers:
                continue
            if len(self.found) == MOST_STANDINGS:
                raise TooMany(MOST_STANDINGS)
            self.numbers[standing] = len(self.found)
            self.found.append(standing)
            self.depths.append(self.depths[at] + 1)
            self.ways.append((at, gate))
            # What a gate would get is another reading only where one of its sources has a new one.
            left = {other: reading for other, reading in ahead.items() if other != gate}
            self.news.append(self.fresh(gates, self.readers[gate], left))

    def line_to(self, number):
        """A shortest line to the standing of this number."""
        line = []
        while number > 0:
            number, gate = self.ways[number]
            line.append(gate)
        return tuple(reversed(line))


def range_of(rows):
    """The list of the indexes of rows."""
    return list(range(len(rows)))


def fewest_line(circuit, cases):
    """A shortest line that settles all cases, and a paper that shows that there is none shorter."""
    check_circuit(circuit)
    check_cases(circuit, cases)
    crowd = crowd_of(circuit, cases)
    sure, _ = crowd.settle()
    check_whole(crowd, sure)
    search = Search(crowd)
    line = search.line_to(search.numbers[tuple(sure)])
    paper = []
    spread = Spread(crowd)
    for standing, depth in zip(search.found, search.depths):
        # No step leads more than one deeper, so none brings more than one of what is left.
        paper.append((spread.standing(standing), max(0, len(line) - depth)))
    return line, tuple(paper)


def is_standing_of(circuit, many, thing):
    """Whether thing, any value, has readings of the gates for so many cases."""
    return is_tuple_of(thing, many) and all(is_readings(row, len(circuit[2])) for row in thing)


def numbers_of(crowd, paper):
    """The dict from the standings of a paper, any value, to their numbers; None if it is none."""
    if not isinstance(paper, tuple) or len(paper) > MOST_STANDINGS:
        return None
    numbers = {}
    for pair in paper:
        if not is_tuple_of(pair, 2) or not is_number(pair[1]) or pair[1] < 0:
            return None
        if not is_standing_of(crowd.circuit, crowd.many, pair[0]):
            return None
        gates = range_of(crowd.circuit[2])
        standing = tuple([crowd.packed([row[gate] for row in pair[0]]) for gate in gates])
        if standing in numbers:
            return None
        numbers[standing] = pair[1]
    return numbers


def keeps_on(crowd, numbers, standing):
    """Whether a standing goes over to such as have a number that is not less by more than 1."""
    for gate, told in enumerate(standing):
        reading = crowd.read(gate, standing)
        if reading == told:
            continue
        gates = list(standing)
        gates[gate] = reading
        if numbers.get(tuple(gates), -1) < max(0, numbers[standing] - 1):
            return False
    return True


def shows_fewest(crowd, line, numbers):
    """Whether the dict from standings to numbers shows that no line is shorter."""
    if numbers.get(tuple(crowd.at_start()), -1) < len(line):
        return False
    for standing, number in numbers.items():
        if number > 0 and not any(crowd.unsettled(standing)):
            return False
    return all(keeps_on(crowd, numbers, standing) for standing in numbers)


def is_fewest(circuit, cases, line, paper):
    """Whether line, any value, settles all cases, and paper, any value, shows that it is shortest."""
    check_circuit(circuit)
    check_cases(circuit, cases)
    crowd = crowd_of(circuit, cases)
    if not is_line(circuit, line) or not settles_all(crowd, line):
        return False
    numbers = numbers_of(crowd, paper)
    return numbers is not None and shows_fewest(crowd, line, numbers)
