"""What a statement must and can do, and what of it is run, by what is known of its signals."""

from restsure.plans import following_codes, freed_codes, greater_codes, has_signal, own_code


class Sheet:
    """A plan with the keys of its signals: names, ascending, behind them the paths to its locals.

    marks: for each statement the number of the key of its signal, None without one.
    """

    def __init__(self, plan, names):
        self.parts = plan.parts
        self.kids = plan.kids
        self.keys_told = list(names)
        self.locals_told = []
        numbers = {name: number for number, name in enumerate(names)}
        bound = {}
        self.marks = []
        for at, part in enumerate(plan.parts):
            if part[0] == "local":
                bound[at] = len(self.keys_told)
                self.keys_told.append(plan.paths[at])
                self.locals_told.append(at)
            mark = None
            if has_signal(part):
                binder = plan.binder(at)
                mark = bound[binder] if binder >= 0 else numbers[part[1]]
            self.marks.append(mark)


def must_rows(sheet, readings):
    """Two lists, by statement: the masks of the keys it must emit, and its codes, or None."""
    emits = [0] * len(sheet.parts)
    codes = [None] * len(sheet.parts)
    for at in reversed(range(len(sheet.parts))):
        mask, code = must_part(sheet, readings, at, emits, codes)
        emits[at] = mask
        codes[at] = code
    return emits, codes


def must_part(sheet, readings, at, emits, codes):
    """What one statement must, by what those within it must."""
    part = sheet.parts[at]
    kind = part[0]
    kids = sheet.kids[at]
    if not kids:
        return own_emit(sheet, at), own_code(part)
    if kind == "if" or kind == "hold":
        reading = readings[sheet.marks[at]]
        if reading is None:
            return 0, None
        if kind == "hold" and reading == 1:
            return 0, 1
        chosen = asked_kid(sheet, at, reading)
        return emits[chosen], codes[chosen]
    one = kids[0]
    if kind == "seq" and codes[one] == 0:
        return emits[one] | emits[kids[1]], codes[kids[1]]
    if kind == "par":
        return emits[one] | emits[kids[1]], greater_code(codes[one], codes[kids[1]])
    if kind == "trap":
        return emits[one], freed_code(codes[one])
    return emits[one], codes[one]


def own_emit(sheet, at):
    """The mask of the key that a statement without others in it emits."""
    if sheet.parts[at][0] == "emit":
        return 1 << sheet.marks[at]
    return 0


def asked_kid(sheet, at, reading):
    """The statement that an if, or a hold at 0, runs."""
    kids = sheet.kids[at]
    if sheet.parts[at][0] == "if" and reading == 0:
        return kids[1]
    return kids[0]


def greater_code(one, other):
    """The greater one of two codes, None if one is not known."""
    if one is None or other is None:
        return None
    return max(one, other)


def freed_code(code):
    """The code of a trap around what has this code, or None."""
    if code is None or code < 2:
        return code
    return code - 1 if code > 2 else 0


def can_rows(sheet, readings):
    """Two lists, by statement: the masks of the keys it can emit, and of its codes."""
    emits = [0] * len(sheet.parts)
    codes = [0] * len(sheet.parts)
    for at in reversed(range(len(sheet.parts))):
        mask, code = can_part(sheet, readings, at, emits, codes)
        emits[at] = mask
        codes[at] = code
    return emits, codes


def can_part(sheet, readings, at, emits, codes):
    """What one statement can, by what those within it can."""
    part = sheet.parts[at]
    kind = part[0]
    kids = sheet.kids[at]
    if not kids:
        return own_emit(sheet, at), 1 << own_code(part)
    one = kids[0]
    if kind == "if" or kind == "hold":
        reading = readings[sheet.marks[at]]
        if kind == "hold" and reading == 1:
            return 0, 2
        if reading is not None:
            chosen = asked_kid(sheet, at, reading)
            return emits[chosen], codes[chosen]
        if kind == "hold":
            return emits[one], codes[one] | 2
        return emits[one] | emits[kids[1]], codes[one] | codes[kids[1]]
    if kind == "seq" and codes[one] & 1:
        return emits[one] | emits[kids[1]], following_codes(codes[one], codes[kids[1]])
    if kind == "par":
        return emits[one] | emits[kids[1]], greater_codes(codes[one], codes[kids[1]])
    if kind == "trap":
        return emits[one], freed_codes(codes[one])
    return emits[one], codes[one]


def run_rows(sheet, readings, codes):
    """The list, by statement, of whether it is run, codes being those that they must have."""
    told = [False] * len(sheet.parts)
    told[0] = True
    for at in range(len(sheet.parts)):
        if told[at]:
            for kid in run_within(sheet, readings, codes, at):
                told[kid] = True
    return told


def run_within(sheet, readings, codes, at):
    """The statements directly within one that are run if it is."""
    kind = sheet.parts[at][0]
    kids = sheet.kids[at]
    if kind == "if" or kind == "hold":
        reading = readings[sheet.marks[at]]
        if reading is None or (kind == "hold" and reading == 1):
            return []
        return [asked_kid(sheet, at, reading)]
    if kind == "seq" and codes[kids[0]] != 0:
        return kids[:1]
    return kids


def keys_in(sheet, mask):
    """The tuple of the keys that a mask has."""
    return tuple([key for number, key in enumerate(sheet.keys_told) if mask >> number & 1])
