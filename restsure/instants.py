"""Instants of a program in a state: whether they are sure, what is there, and what comes next."""

from restsure.errors import BadGiven, BadRows, BadState, TooMany
from restsure.kinds import bit_rows, filled, is_bit, is_bits, is_numbers, is_row, is_tuple_of
from restsure.moments import Moment, Rests, is_all_told, next_steps, part_sizes, told_to_end
from restsure.plans import MOST_REST_LEVELS, MOST_REST_PARTS
from restsure.sheets import must_rows, run_rows
from restsure.statements import check_program, state_fits

MOST_WAYS = 12
MOST_ROWS = 400


def check_instant(program, state, given):
    """Raise the error of the first one that is wrong."""
    check_program(program)
    if not state_fits(program, state):
        raise BadState("not a state of the program")
    if not is_bits(given, len(program[0])):
        raise BadGiven("not a tuple of bits of the inputs")


def react_to(program, state, given):
    """What react tells, of what is known to be right."""
    moment = Moment(program, state, given)
    sheet = moment.sheet
    _, known = told_to_end(sheet, moment.known)
    if not is_all_told(moment, known):
        return None
    totals = tuple([known[moment.numbers[name]] for name in program[0] + program[1]])
    _, codes = must_rows(sheet, known)
    if codes[0] == 0:
        return totals, 0, None
    following, many, levels = Rests(sheet, part_sizes(sheet), known, codes).rest(0)
    if many > MOST_REST_PARTS:
        raise TooMany(MOST_REST_PARTS)
    if levels > MOST_REST_LEVELS:
        raise TooMany(MOST_REST_LEVELS)
    return totals, 1, following


def react(program, state, given):
    """The triple (totals, code, next state), None if the instant is not sure."""
    check_instant(program, state, given)
    return react_to(program, state, given)


def known_at(program, state, given):
    """The dict from the signals and the paths to the locals to what is known in the end."""
    check_instant(program, state, given)
    moment = Moment(program, state, given)
    _, known = told_to_end(moment.sheet, moment.known)
    return {key: known[number] for number, key in enumerate(moment.sheet.keys_told)}


def shown_sure(program, state, given):
    """A paper that shows the instant to be sure, or not to be."""
    check_instant(program, state, given)
    moment = Moment(program, state, given)
    steps, known = told_to_end(moment.sheet, moment.known)
    word = "sure" if is_all_told(moment, known) else "unsure"
    return word, tuple([(moment.sheet.keys_told[number], reading) for number, reading in steps])


def numbered_steps(moment, thing):
    """The list of thing's steps with numbers in the place of keys; None unless it is such a tuple."""
    if not isinstance(thing, tuple):
        return None
    told = []
    for step in thing:
        if not is_tuple_of(step, 2) or not is_bit(step[1]):
            return None
        key, reading = step
        # Asked ahead: a bool in a path would be found as if it were an index.
        if not isinstance(key, str) and not is_numbers(key):
            return None
        if key not in moment.numbers:
            return None
        told.append((moment.numbers[key], reading))
    return told


def known_behind(moment, steps):
    """The readings behind these steps, None unless each may be told with those ahead."""
    known = list(moment.known)
    may = next_steps(moment.sheet, known)
    for step in steps:
        if known[step[0]] is not None:
            return None
        # What could be told a while ago still can: to look again is only needed if it could not.
        if step not in may:
            may = next_steps(moment.sheet, known)
        if step not in may:
            return None
        known[step[0]] = step[1]
    return known


def is_shown_sure(program, state, given, thing):
    """Whether thing, any value, shows the instant to be sure, or not to be."""
    check_instant(program, state, given)
    if not is_tuple_of(thing, 2) or not (thing[0] == "sure" or thing[0] == "unsure"):
        return False
    moment = Moment(program, state, given)
    steps = numbered_steps(moment, thing[1])
    if steps is None:
        return False
    known = known_behind(moment, steps)
    if known is None:
        return False
    if thing[0] == "sure":
        return is_all_told(moment, known)
    return not is_all_told(moment, known) and not next_steps(moment.sheet, known)


def agreeing(moment, bits):
    """The readings bits, None for locals that are not run, if they agree; otherwise None.

    For a local that is not run the bit must be 0: it stands for None.
    """
    sheet = moment.sheet
    emits, codes = must_rows(sheet, bits)
    runs = run_rows(sheet, bits, codes)
    told = []
    for number, bit in enumerate(bits):
        emitted = emits[0] >> number & 1
        if moment.known[number] == 1:
            emitted = 1
        if bit != emitted:
            return None
        told.append(bit)
    for at in sheet.locals_told:
        if not runs[at]:
            told[sheet.marks[at]] = None
    return told


def ways(program, state, given):
    """The ascending list of all dicts of readings that agree with what is run by them."""
    check_instant(program, state, given)
    moment = Moment(program, state, given)
    if len(moment.known) > MOST_WAYS:
        raise TooMany(MOST_WAYS)
    # What is known is so in all ways, but for the locals that are not run.
    _, known = told_to_end(moment.sheet, moment.known)
    found = []
    for row in bit_rows(known.count(None)):
        told = agreeing(moment, filled(known, row))
        if told is not None:
            found.append(tuple([2 if reading is None else reading for reading in told]))
    pairs = list(enumerate(moment.sheet.keys_told))
    return [{key: None if row[number] == 2 else row[number] for number, key in pairs}
            for row in sorted(found)]


def run_program(program, rows):
    """The list of what react tells row by row, from the body on, up to the first None."""
    check_program(program)
    if not is_row(rows) or len(rows) > MOST_ROWS:
        raise BadRows("not a list of at most 400 rows")
    if not all(is_bits(row, len(program[0])) for row in rows):
        raise BadRows("not a list of tuples of bits of the inputs")
    told = []
    state = program[2]
    for given in rows:
        instant = react_to(program, state, given)
        told.append(instant)
        if instant is None:
            return told
        state = instant[2]
    return told
