"""Programs that tell the same along all rows, or a row along which they do not."""

from restsure.errors import Unlike
from restsure.instants import MOST_ROWS
from restsure.kinds import is_bits, is_row, is_tuple_of
from restsure.reached import Reach
from restsure.sights import Scene, given_mask, given_masks
from restsure.statements import check_program, state_fits


class Tale:
    """What is told in the instants of a state, by given, and the texts of the next states.

    Both have None for an unsure instant; the text is "" where the next state is too great.
    """

    def __init__(self, program, state):
        self.told = []
        self.texts = []
        scene = Scene(program, state)
        for given in given_masks(program):
            sight = scene.last(given)
            if sight.is_sure():
                code = 0 if scene.ending(sight)[0] is None else 1
                self.told.append((scene.totals(sight, given), code))
                self.texts.append(scene.label(sight))
            else:
                self.told.append(None)
                self.texts.append(None)


def check_both(one, other):
    """Raise the error of the first one that is wrong."""
    check_program(one)
    check_program(other)
    if one[:2] != other[:2]:
        raise Unlike("not the same inputs and outputs")


def told_rows(reach, numbers):
    """By state, the numbers of what is told by given; numbers has these, also of other programs."""
    rows = []
    for state in reach.table:
        row = []
        for told in state:
            key = None if told is None else told[:2]
            if key not in numbers:
                numbers[key] = len(numbers)
            row.append(numbers[key])
        rows.append(row)
    return rows


def following_rows(reach):
    """By state, the numbers of the next states by given, -1 for an unsure instant."""
    return [[-1 if told is None else told[2] for told in state] for state in reach.table]


def alike(one, other):
    """What shows that both programs are alike, or that they are not."""
    check_both(one, other)
    reaches = (Reach(one), Reach(other))
    numbers = {}
    told = [told_rows(reach, numbers) for reach in reaches]
    following = [following_rows(reach) for reach in reaches]
    pairs = [(0, 0)]
    met = {(0, 0): None}
    done = 0
    while done < len(pairs):
        left, right = pairs[done]
        if told[0][left] != told[1][right]:
            index = first_unlike(told[0][left], told[1][right])
            return "row", row_back(met, pairs[done]) + (reaches[0].rows[index],)
        for index, pair in enumerate(zip(following[0][left], following[1][right])):
            if pair not in met and pair != (-1, -1):
                met[pair] = (pairs[done], reaches[0].rows[index])
                pairs.append(pair)
        done += 1
    return "alike", [(reaches[0].states[left], reaches[1].states[right]) for left, right in pairs]


def first_unlike(one, other):
    """The first index at which two lists have unlike items."""
    index = 0
    while one[index] == other[index]:
        index += 1
    return index


def row_back(met, pair):
    """The row by which a pair was met first, a tuple."""
    row = []
    while met[pair] is not None:
        pair, given = met[pair]
        row.append(given)
    return tuple(reversed(row))


def is_told(program, tales, state, text):
    """Whether state, any value, is a state; tales gets its tale then, by this text of it."""
    if text not in tales:
        tales[text] = Tale(program, state) if state_fits(program, state) else None
    return tales[text] is not None


def are_alike_by(one, other, pairs):
    """Whether pairs, any value, show that both are alike."""
    if not is_row(pairs) or not all(is_tuple_of(pair, 2) for pair in pairs):
        return False
    tales = ({}, {})
    met = {}
    for left, right in pairs:
        texts = (repr(left), repr(right))
        if not is_told(one, tales[0], left, texts[0]) or not is_told(other, tales[1], right, texts[1]):
            return False
        met[texts] = True
    if (repr(one[2]), repr(other[2])) not in met:
        return False
    return all(goes_on(tales[0][left], tales[1][right], met) for left, right in met)


def goes_on(one, other, met):
    """Whether two tales tell the same, and all pairs of next states are among those met."""
    if one.told != other.told:
        return False
    for pair in zip(one.texts, other.texts):
        if pair not in met and pair != (None, None):
            return False
    return True


def told_along(program, row):
    """The list of what the program tells along a row; None if a next state is too great."""
    told = []
    state = program[2]
    for given in row:
        scene = Scene(program, state)
        mask = given_mask(program, given)
        sight = scene.last(mask)
        if not sight.is_sure():
            return told + [None]
        if scene.label(sight) == "":
            return None
        state = scene.rest(sight)
        told.append((scene.totals(sight, mask), 0 if state is None else 1))
    return told


def are_parted_by(one, other, row):
    """Whether row, any value, is one along which they do not tell the same."""
    if not is_row(row) or len(row) > MOST_ROWS:
        return False
    if not all(is_bits(given, len(one[0])) for given in row):
        return False
    told = (told_along(one, row), told_along(other, row))
    return None not in told and told[0] != told[1]


def is_alike_paper(one, other, thing):
    """Whether thing, any value, shows that both programs are alike, or that they are not."""
    check_both(one, other)
    if not is_tuple_of(thing, 2):
        return False
    if thing[0] == "alike":
        return are_alike_by(one, other, thing[1])
    return thing[0] == "row" and are_parted_by(one, other, thing[1])
