"""What a state must and can do in an instant, seen once for all inputs for which it is the same."""

from restsure.errors import TooMany
from restsure.kinds import bit_rows, is_bit, is_numbers, is_tuple_of
from restsure.moments import ENDED, Rests, part_sizes
from restsure.plans import MOST_REST_LEVELS, MOST_REST_PARTS, following_codes, freed_codes
from restsure.plans import greater_codes, mask_list, own_code, rest_plan
from restsure.sheets import Sheet, asked_kid, own_emit, run_rows

# Lots of signals and of codes are masks here. The row of a statement is a tuple: the signals that
# it must emit, those that it can emit, the code that it must have (0 if none is known), the codes
# that it can have, and the signals for whose readings it still waits. If it waits for none, it
# can what it must, and more that is known changes nothing.


class Sight:
    """The rows of the statements of a state, as far as they matter, by a part of what is known.

    ones, zeros: the signals that are known here to be there, not to be there; fresh: those that
    were not known yet when the rows were told; kept: what Scene.ending tells of this sight, if it
    was asked, and text: one that is that rest's own.
    """

    def __init__(self, ones, zeros, fresh, rows):
        self.ones = ones
        self.zeros = zeros
        self.fresh = fresh
        self.rows = rows
        self.beyond = {}
        self.kept = None
        self.text = None

    def is_sure(self):
        """Whether nothing is waited for."""
        return self.rows[0][4] == 0

    def reading(self, mark):
        """The reading of the signal of this number."""
        if self.ones >> mark & 1:
            return 1
        return 0 if self.zeros >> mark & 1 else None


def look(sheet, sight, at):
    """The row of a statement, told anew if it waited for what is fresh."""
    row = sight.rows[at]
    if row is None or row[4] & sight.fresh:
        row = seen(sheet, sight, at)
        sight.rows[at] = row
    return row


def seen(sheet, sight, at):
    """The row of a statement by the rows of those directly in it that may be run."""
    kids = sheet.kids[at]
    if not kids:
        emits = own_emit(sheet, at)
        code = 1 << own_code(sheet.parts[at])
        return emits, emits, code, code, 0
    kind = sheet.parts[at][0]
    if kind == "if" or kind == "hold":
        reading = sight.reading(sheet.marks[at])
        if kind == "hold" and reading == 1:
            return 0, 0, 2, 2, 0
        if reading is not None:
            return look(sheet, sight, asked_kid(sheet, at, reading))
        rows = [look(sheet, sight, kids[0])]
        if kind == "if":
            rows.append(look(sheet, sight, kids[1]))
        return waiting_row(1 << sheet.marks[at], kind, rows)
    row = look(sheet, sight, kids[0])
    if kind == "par":
        return row_beside(row, look(sheet, sight, kids[1]))
    if kind == "seq" and row[3] & 1:
        return row_behind(row, look(sheet, sight, kids[1]))
    if kind == "trap":
        return row[0], row[1], freed_codes(row[2]), freed_codes(row[3]), row[4]
    return row


def waiting_row(signal, kind, rows):
    """The row of an if or a hold whose signal is not known."""
    can = 0
    # What is held may pause.
    codes = 2 if kind == "hold" else 0
    asked = signal
    for row in rows:
        can = can | row[1]
        codes = codes | row[3]
        asked = asked | row[4]
    return 0, can, 0, codes, asked


def row_beside(one, other):
    """The row of a par."""
    code = greater_codes(one[2], other[2]) if one[2] and other[2] else 0
    codes = greater_codes(one[3], other[3])
    return one[0] | other[0], one[1] | other[1], code, codes, one[4] | other[4]


def row_behind(one, other):
    """The row of a seq whose first one can end."""
    must = one[0]
    code = one[2]
    if code == 1:
        must = must | other[0]
        code = other[2]
    return must, one[1] | other[1], code, following_codes(one[3], other[3]), one[4] | other[4]


def given_mask(program, given):
    """The mask of the inputs that are given."""
    names = sorted(program[0] + program[1])
    return sum([1 << names.index(name) for name, bit in zip(program[0], given) if bit])


def given_masks(program):
    """The list of the masks of what may be given, by given ascending."""
    return [given_mask(program, given) for given in bit_rows(len(program[0]))]


class Scene:
    """A state of a program, with all that was seen of it so far.

    The signals are numbered: those of the program by name, behind them its locals by path.
    What is given is a mask of them, too.
    """

    def __init__(self, program, state):
        names = sorted(program[0] + program[1])
        self.sheet = Sheet(rest_plan(ENDED if state is None else state), names)
        self.sizes = part_sizes(self.sheet)
        self.numbers = {key: number for number, key in enumerate(self.sheet.keys_told)}
        self.places = [self.numbers[name] for name in program[0] + program[1]]
        self.named = (1 << len(names)) - 1
        self.everything = (1 << len(self.numbers)) - 1
        self.steps = [((key, 0), (key, 1)) for key in self.sheet.keys_told]
        self.first = Sight(0, 0, 0, [None] * len(self.sheet.parts))
        look(self.sheet, self.first, 0)

    def further(self, sight, ones, zeros):
        """The sight behind this one when these are known; None if nothing waits for any of them."""
        asked = sight.rows[0][4]
        key = (ones & asked, zeros & asked)
        if key == (0, 0):
            return None
        if key not in sight.beyond:
            fresh = key[0] | key[1]
            more = Sight(sight.ones | key[0], sight.zeros | key[1], fresh, list(sight.rows))
            look(self.sheet, more, 0)
            sight.beyond[key] = more
        return sight.beyond[key]

    def way(self, given):
        """The sights by which an instant is known, from the first to the last one."""
        told = []
        sight = self.first
        while sight is not None:
            told.append(sight)
            row = sight.rows[0]
            sight = self.further(sight, given | row[0], ~(given | row[1]))
        return told

    def last(self, given):
        """The last sight of an instant; the instant is sure exactly if this sight is."""
        return self.way(given)[-1]

    def totals(self, sight, given):
        """The bits of the signals of the program in a sure instant."""
        there = sight.rows[0][0] | given
        return tuple([there >> place & 1 for place in self.places])

    def read(self, sight):
        """The pair of lists, of the readings of the signals and, by statement, of whether it ends.

        The latter is told by codes, of which 0 alone has a meaning.
        """
        readings = [sight.reading(mark) for mark in range(len(self.numbers))]
        return readings, [0 if row is not None and row[2] == 1 else 1 for row in sight.rows]

    def ending(self, sight):
        """The rest behind a sure sight: (statement, how many, levels); None stands for what ended."""
        if sight.kept is None:
            sight.kept = (None, 1, 1)
            if sight.rows[0][2] != 1:
                readings, codes = self.read(sight)
                sight.kept = Rests(self.sheet, self.sizes, readings, codes).rest(0)
            sight.text = repr(sight.kept[0])
        return sight.kept

    def label(self, sight):
        """A text that is the own one of the rest behind a sure sight, "" if it is too great."""
        _, many, levels = self.ending(sight)
        if many > MOST_REST_PARTS or levels > MOST_REST_LEVELS:
            return ""
        return sight.text

    def rest(self, sight):
        """The next state behind a sure sight; TooMany if it is too great."""
        state, many, levels = self.ending(sight)
        if many > MOST_REST_PARTS:
            raise TooMany(MOST_REST_PARTS)
        if levels > MOST_REST_LEVELS:
            raise TooMany(MOST_REST_LEVELS)
        return state

    def paper(self, given):
        """A paper that shows the instant to be sure, or not to be."""
        told = []
        known = given
        way = self.way(given)
        for sight in way:
            row = sight.rows[0]
            ones = row[0] & ~known
            zeros = self.everything & ~(row[1] | known)
            told.extend([self.steps[number][1] for number in mask_list(ones)])
            told.extend([self.steps[number][0] for number in mask_list(zeros)])
            known = known | ones | zeros
        return "sure" if way[-1].is_sure() else "unsure", tuple(told)

    def running(self, sight):
        """The mask of the locals that are run, by a sure sight."""
        readings, codes = self.read(sight)
        runs = run_rows(self.sheet, readings, codes)
        return sum([1 << self.sheet.marks[at] for at in self.sheet.locals_told if runs[at]])

    def numbered(self, steps):
        """The list of the pairs (number of a signal, bit) that steps, any value, has; or None."""
        if not isinstance(steps, tuple):
            return None
        told = []
        for step in steps:
            if not is_tuple_of(step, 2) or not is_bit(step[1]):
                return None
            key = step[0]
            # Asked ahead: a bool in a path would be found as if it were an index.
            if not isinstance(key, str) and not is_numbers(key):
                return None
            if key not in self.numbers:
                return None
            told.append((self.numbers[key], step[1]))
        return told

    def stepping(self, given, steps):
        """The triple (last sight, ones, zeros) behind these steps; None if one may not be told."""
        ones = given
        zeros = 0
        sight = self.first
        for number, bit in steps:
            worth = 1 << number
            if (ones | zeros) & worth:
                return None
            while not may_tell(sight.rows[0], worth, bit):
                sight = self.further(sight, ones, zeros)
                if sight is None:
                    return None
            ones = ones | worth * bit
            zeros = zeros | worth * (1 - bit)
        more = sight
        while more is not None:
            sight = more
            more = self.further(sight, ones, zeros)
        return sight, ones, zeros

    def shows(self, given, word, thing):
        """Whether thing, any value, is a paper of this word, "sure" or "unsure", for the instant."""
        if not is_tuple_of(thing, 2) or thing[0] != word:
            return False
        steps = self.numbered(thing[1])
        behind = None if steps is None else self.stepping(given, steps)
        if behind is None:
            return False
        sight, ones, zeros = behind
        unknown = self.everything & ~(ones | zeros)
        if word == "unsure":
            row = sight.rows[0]
            return not sight.is_sure() and not unknown & (row[0] | ~row[1])
        if not sight.is_sure() or unknown & self.named:
            return False
        return unknown == 0 or not unknown & self.running(sight)


def may_tell(row, worth, bit):
    """Whether this bit of the signal of this worth may be told by the row of a state."""
    return row[0] & worth != 0 if bit else row[1] & worth == 0
