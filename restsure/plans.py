"""Statements laid out flat: all statements within one, in the sequence of their paths."""

from restsure.kinds import is_below, is_signal

# s stands for a signal, k for the number of an exit, p for a statement.
FORMS = {
    "nothing": "",
    "pause": "",
    "emit": "s",
    "if": "spp",
    "seq": "pp",
    "par": "pp",
    "loop": "p",
    "suspend": "sp",
    "trap": "p",
    "exit": "k",
    "local": "sp",
    "hold": "sp",
}
MOST_EXIT = 20
MOST_PARTS = 200
MOST_LEVELS = 40
MOST_REST_PARTS = 2000
MOST_REST_LEVELS = 80


class Plan:
    """The statements within one, by numbers, each ahead of those within it.

    parts: the statements; paths: where they stand; ups: the number of the one in which each
    stands directly, -1 for the whole; kids: the numbers of those that stand directly in it.
    """

    def __init__(self):
        self.parts = []
        self.paths = []
        self.ups = []
        self.kids = []

    def take(self, part, path, up):
        """Lay one more statement down, and tell its number."""
        number = len(self.parts)
        self.parts.append(part)
        self.paths.append(path)
        self.ups.append(up)
        self.kids.append([])
        if up >= 0:
            self.kids[up].append(number)
        return number

    def binder(self, number):
        """The number of the local that the signal of this statement means, -1 if it is free."""
        signal = self.parts[number][1]
        if self.parts[number][0] == "local":
            return number
        up = self.ups[number]
        while up >= 0:
            if self.parts[up][0] == "local" and self.parts[up][1] == signal:
                return up
            up = self.ups[up]
        return -1

    def traps_around(self, number):
        """How many traps this statement stands in."""
        many = 0
        up = self.ups[number]
        while up >= 0:
            if self.parts[up][0] == "trap":
                many += 1
            up = self.ups[up]
        return many


def has_signal(part):
    """Whether a statement has a signal of its own."""
    return FORMS[part[0]].startswith("s")


def part_places(part):
    """The ascending list of the indexes at which statements stand directly in one."""
    form = FORMS[part[0]]
    return [index + 1 for index, sign in enumerate(form) if sign == "p"]


def has_form(thing, holds):
    """Whether thing, any value, is built as a statement, whatever stands in it."""
    if not isinstance(thing, tuple) or not thing or not isinstance(thing[0], str):
        return False
    if thing[0] not in FORMS or (thing[0] == "hold" and not holds):
        return False
    form = FORMS[thing[0]]
    if len(thing) != len(form) + 1:
        return False
    if form.startswith("s"):
        return is_signal(thing[1])
    return form != "k" or is_below(thing[1], MOST_EXIT + 1)


def plan_of(thing, holds, most, levels):
    """The plan of thing, any value; None unless it is built as a statement within the limits."""
    plan = Plan()
    stack = [(thing, (), -1)]
    while stack:
        part, path, up = stack.pop()
        if len(plan.parts) == most or len(path) == levels or not has_form(part, holds):
            return None
        number = plan.take(part, path, up)
        for place in reversed(part_places(part)):
            stack.append((part[place], path + (place,), number))
    masks = code_masks(plan)
    for number, part in enumerate(plan.parts):
        # A loop whose body may end at once would begin it again and again in one instant.
        if part[0] == "loop" and masks[plan.kids[number][0]] & 1:
            return None
    return plan


def statement_plan(thing):
    """The plan of a statement, None for any value that is none."""
    return plan_of(thing, False, MOST_PARTS, MOST_LEVELS)


def rest_plan(thing):
    """The plan of a rest statement, None for any value that is none."""
    return plan_of(thing, True, MOST_REST_PARTS, MOST_REST_LEVELS)


# Lots of codes are numbers here, with a bit of worth 1 << c for each code c.


def greater_codes(one, other):
    """The codes that are the greater of one of the ones and one of the others."""
    least = max(one & -one, other & -other)
    return (one | other) // least * least


def freed_codes(codes):
    """The codes of a trap around what has these codes."""
    ends = 1 if codes & 4 else 0
    return codes & 3 | ends | codes >> 3 << 2


def following_codes(one, other):
    """The codes of what has these codes, one behind the other."""
    if one & 1:
        return one - 1 | other
    return one


def own_code(part):
    """The code of nothing, emit, pause, exit."""
    if part[0] == "exit":
        return part[1] + 2
    return 1 if part[0] == "pause" else 0


def plain_mask(part, kids):
    """The plain codes of a statement, kids being those of the statements directly in it."""
    kind = part[0]
    if not kids:
        return 1 << own_code(part)
    if kind == "if":
        return kids[0] | kids[1]
    if kind == "seq":
        return following_codes(kids[0], kids[1])
    if kind == "par":
        return greater_codes(kids[0], kids[1])
    if kind == "trap":
        return freed_codes(kids[0])
    if kind == "hold":
        return kids[0] | 2
    # So for a loop, too: where 0 is a code of its body there is no statement at all.
    return kids[0]


def code_masks(plan):
    """The list of the plain codes of all statements of the plan."""
    masks = [0] * len(plan.parts)
    for number in reversed(range(len(plan.parts))):
        kids = [masks[kid] for kid in plan.kids[number]]
        masks[number] = plain_mask(plan.parts[number], kids)
    return masks


def mask_list(mask):
    """The ascending list of the codes, or other numbers, that a mask has."""
    return [place for place in range(mask.bit_length()) if mask >> place & 1]
