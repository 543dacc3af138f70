"""One instant of a state: what becomes known of its signals step by step, and its rest."""

from restsure.plans import rest_plan
from restsure.sheets import Sheet, can_rows, must_rows, run_rows

ENDED = ("nothing",)


class Moment:
    """A state in an instant, with the readings of the signals of its program and its locals.

    known: the readings at the beginning, by the numbers of the keys of the sheet.
    """

    def __init__(self, program, state, given):
        names = sorted(program[0] + program[1])
        # What has ended is run like a statement that does nothing.
        plan = rest_plan(ENDED if state is None else state)
        self.sheet = Sheet(plan, names)
        self.signals = len(names)
        self.numbers = {key: number for number, key in enumerate(self.sheet.keys_told)}
        self.known = [None] * len(self.sheet.keys_told)
        for name, bit in zip(program[0], given):
            if bit == 1:
                self.known[self.numbers[name]] = 1


def next_steps(sheet, known):
    """The pairs (number of a key, reading) that may be told by what is known."""
    musts, _ = must_rows(sheet, known)
    cans, _ = can_rows(sheet, known)
    told = []
    for number, reading in enumerate(known):
        if reading is None and musts[0] >> number & 1:
            told.append((number, 1))
        elif reading is None and not cans[0] >> number & 1:
            told.append((number, 0))
    return told


def told_to_end(sheet, known):
    """The pair of all steps, one behind the other, and of the readings at the end."""
    steps = []
    now = list(known)
    while True:
        # What may be told stays so when more is told: all of it is told at once.
        more = next_steps(sheet, now)
        if not more:
            return steps, now
        for number, reading in more:
            now[number] = reading
        steps.extend(more)


def is_all_told(moment, known):
    """Whether all signals, and all locals that are run, have readings."""
    if None in known[:moment.signals]:
        return False
    sheet = moment.sheet
    _, codes = must_rows(sheet, known)
    runs = run_rows(sheet, known, codes)
    return all(known[sheet.marks[at]] is not None for at in sheet.locals_told if runs[at])


def part_sizes(sheet):
    """The list, by statement, of the pairs of how many statements and how many levels it has."""
    sizes = [(1, 1)] * len(sheet.parts)
    for at in reversed(range(len(sheet.parts))):
        within = [sizes[kid] for kid in sheet.kids[at]]
        if within:
            many = sum([size for size, _ in within])
            sizes[at] = (many + 1, max([levels for _, levels in within]) + 1)
    return sizes


class Rests:
    """The rests of statements that pause, with how many statements and levels they have.

    Each is a triple (statement, how many, levels); sizes are those of the statements of the sheet.
    """

    def __init__(self, sheet, sizes, known, codes):
        self.sheet = sheet
        self.sizes = sizes
        self.known = known
        self.codes = codes

    def as_it_is(self, at):
        """A statement of the sheet itself."""
        many, levels = self.sizes[at]
        return self.sheet.parts[at], many, levels

    def rest(self, at):
        """The rest of a statement that is run and pauses."""
        part = self.sheet.parts[at]
        kind = part[0]
        kids = self.sheet.kids[at]
        if kind == "pause":
            return ENDED, 1, 1
        if kind == "if":
            return self.rest(kids[0] if self.known[self.sheet.marks[at]] == 1 else kids[1])
        if kind == "hold" and self.known[self.sheet.marks[at]] == 1:
            return self.as_it_is(at)
        if kind == "seq":
            return self.rest_of_seq(kids)
        if kind == "par":
            return self.rest_of_par(kids)
        within = self.rest(kids[0])
        if kind == "loop":
            return joined("seq", within, self.as_it_is(at))
        if kind == "trap":
            return around(("trap",), within)
        if kind == "local":
            return around(("local", part[1]), within)
        return around(("hold", part[1]), within)

    def rest_of_seq(self, kids):
        """The rest of a seq of these two."""
        if self.codes[kids[0]] == 0:
            return self.rest(kids[1])
        return joined("seq", self.rest(kids[0]), self.as_it_is(kids[1]))

    def rest_of_par(self, kids):
        """The rest of a par of these two, of which one may end."""
        if self.codes[kids[0]] == 0:
            return self.rest(kids[1])
        if self.codes[kids[1]] == 0:
            return self.rest(kids[0])
        return joined("par", self.rest(kids[0]), self.rest(kids[1]))


def around(head, within):
    """A statement of this head around a rest."""
    part, many, levels = within
    return head + (part,), many + 1, levels + 1


def joined(kind, one, other):
    """A statement of this kind of two rests."""
    return (kind, one[0], other[0]), one[1] + other[1] + 1, max(one[2], other[2]) + 1
