"""What a rest statement must and can do by readings of its signals."""

from restsure.errors import BadReadings
from restsure.kinds import is_numbers, is_reading
from restsure.plans import mask_list
from restsure.sheets import Sheet, can_rows, keys_in, must_rows, run_rows
from restsure.statements import checked_rest, free_names


def are_readings_of(keys, thing):
    """Whether thing is a dict from just these keys to readings."""
    if not isinstance(thing, dict) or len(thing) != len(keys):
        return False
    wanted = {key: True for key in keys}
    for key, reading in thing.items():
        # Asked ahead: a bool in a path would be found as if it were an index.
        if not isinstance(key, str) and not is_numbers(key):
            return False
        if key not in wanted or not is_reading(reading):
            return False
    return True


def checked_sheet(plan, readings):
    """The pair of the sheet of a plan and the list of the readings of its keys."""
    sheet = Sheet(plan, free_names(plan))
    if not are_readings_of(sheet.keys_told, readings):
        raise BadReadings("not a dict of readings of the signals")
    return sheet, [readings[key] for key in sheet.keys_told]


def must(rest, readings):
    """The pair of the signals that it must emit and its code, or None."""
    sheet, known = checked_sheet(checked_rest(rest), readings)
    emits, codes = must_rows(sheet, known)
    return keys_in(sheet, emits[0]), codes[0]


def can(rest, readings):
    """The pair of the signals that it can emit and the codes that it can have."""
    sheet, known = checked_sheet(checked_rest(rest), readings)
    emits, codes = can_rows(sheet, known)
    return keys_in(sheet, emits[0]), tuple(mask_list(codes[0]))


def run_parts(rest, readings):
    """The ascending list of the paths of the statements that are run."""
    plan = checked_rest(rest)
    sheet, known = checked_sheet(plan, readings)
    _, codes = must_rows(sheet, known)
    told = run_rows(sheet, known, codes)
    return [path for at, path in enumerate(plan.paths) if told[at]]
