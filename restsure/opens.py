"""Statements with other leaves in them: holes, and runs of modules."""

from restsure.kinds import is_signal, is_tuple_of
from restsure.plans import MOST_LEVELS, MOST_PARTS, Plan, has_form, part_places

HOLE = "hole"
RUN = "run"
MOST_PASSED = 16


def is_hole(thing):
    """Whether thing, any value, is a hole."""
    return is_tuple_of(thing, 1) and isinstance(thing[0], str) and thing[0] == HOLE


def are_passed(thing):
    """Whether thing, any value, is a tuple of pairs of signals, the first ones of which rise."""
    if not isinstance(thing, tuple) or len(thing) > MOST_PASSED:
        return False
    for pair in thing:
        if not is_tuple_of(pair, 2) or not is_signal(pair[0]) or not is_signal(pair[1]):
            return False
    firsts = [first for first, _ in thing]
    return firsts == sorted(set(firsts))


def is_run(thing):
    """Whether thing, any value, is a run of a module."""
    if not is_tuple_of(thing, 3) or not isinstance(thing[0], str) or thing[0] != RUN:
        return False
    return is_signal(thing[1]) and are_passed(thing[2])


def open_plan(thing, leaf, most, levels):
    """The plan of thing, any value, with leaves of one more kind in it; None if it is built otherwise.

    It may have so many statements, in so many levels; codes are not asked.
    """
    plan = Plan()
    stack = [(thing, (), -1)]
    while stack:
        part, path, up = stack.pop()
        if len(plan.parts) == most or len(path) == levels:
            return None
        if is_hole(part) and leaf == HOLE or is_run(part) and leaf == RUN:
            plan.take(part, path, up)
            continue
        if not has_form(part, False):
            return None
        number = plan.take(part, path, up)
        for place in reversed(part_places(part)):
            stack.append((part[place], path + (place,), number))
    return plan


def leaves_of(plan, leaf):
    """The list of the numbers of the leaves of this kind."""
    return [number for number, part in enumerate(plan.parts) if part[0] == leaf]


def exchanged(plan, leaves):
    """The whole of a plan, with other statements in the place of the leaves that the dict has."""
    made = list(plan.parts)
    for number in reversed(range(len(plan.parts))):
        part = plan.parts[number]
        if number in leaves:
            made[number] = leaves[number]
        elif plan.kids[number]:
            row = list(part)
            for place, kid in zip(part_places(part), plan.kids[number]):
                row[place] = made[kid]
            made[number] = tuple(row)
    return made[0]


def surroundings_plan(thing):
    """The plan of a statement with holes, any value, within the limits; None if it is built otherwise."""
    return open_plan(thing, HOLE, MOST_PARTS, MOST_LEVELS)
