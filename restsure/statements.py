"""Statements, rest statements, programs and their states."""

from restsure.errors import BadNumber, BadPath, BadProgram, BadRest, BadSignal, TooMany
from restsure.kinds import is_below, is_numbers, is_signal, is_tuple_of
from restsure.plans import MOST_EXIT, code_masks, has_signal, mask_list, part_places, rest_plan
from restsure.plans import statement_plan

MOST_SIGNALS = 8


def is_statement(thing):
    """Whether thing, any value, is a statement."""
    return statement_plan(thing) is not None


def is_rest(thing):
    """Whether thing, any value, is a rest statement."""
    return rest_plan(thing) is not None


def checked_rest(rest):
    """The plan of rest; BadRest unless it is a rest statement."""
    plan = rest_plan(rest)
    if plan is None:
        raise BadRest("not a rest statement")
    return plan


def plain_codes(rest):
    """The ascending list of the plain codes."""
    return mask_list(code_masks(checked_rest(rest))[0])


def free_names(plan):
    """The ascending list of the signals that stand in no local of the same signal."""
    found = set()
    for number, part in enumerate(plan.parts):
        if has_signal(part) and plan.binder(number) < 0:
            found.add(part[1])
    return sorted(found)


def free_signals(rest):
    """The ascending list of the signals that stand in no local of the same signal."""
    return free_names(checked_rest(rest))


def rest_paths(rest):
    """The ascending list of all paths."""
    return list(checked_rest(rest).paths)


def number_at(plan, path):
    """The number of the statement to which path, any value, leads; BadPath without such."""
    # Asked ahead: a bool in a path would be equal to an index.
    if not is_numbers(path) or path not in plan.paths:
        raise BadPath("not a path in the statement")
    return plan.paths.index(path)


def rest_at(rest, path):
    """The statement to which path leads."""
    plan = checked_rest(rest)
    return plan.parts[number_at(plan, path)]


def leading_out(plan):
    """The list of the numbers of the exits that lead out of the whole."""
    return [number for number, part in enumerate(plan.parts)
            if part[0] == "exit" and plan.traps_around(number) <= part[1]]


def rebuilt(plan, changed):
    """The whole, with statements of other signals or exits where the dict changed has some.

    The statements that stand within one of these are told by the plan alone.
    """
    made = list(plan.parts)
    for number in reversed(range(len(plan.parts))):
        part = changed.get(number, plan.parts[number])
        row = list(part)
        for place, kid in zip(part_places(part), plan.kids[number]):
            row[place] = made[kid]
        made[number] = tuple(row)
    return made[0]


def raised(rest, many):
    """The statement in which each exit that leads out of it is raised by many."""
    plan = checked_rest(rest)
    if not is_below(many, MOST_EXIT + 1):
        raise BadNumber("not a number from 0 to 20")
    changed = {}
    for number in leading_out(plan):
        above = plan.parts[number][1] + many
        if above > MOST_EXIT:
            raise TooMany(MOST_EXIT)
        changed[number] = ("exit", above)
    return rebuilt(plan, changed)


def renamed(rest, path, signal):
    """The statement in which the local at path, and what means it, has this signal."""
    plan = checked_rest(rest)
    local = number_at(plan, path)
    if plan.parts[local][0] != "local":
        raise BadPath("no local stands there")
    standing = [part[1] for part in plan.parts if has_signal(part)]
    if not is_signal(signal) or signal in standing:
        raise BadSignal("not a signal that does not stand in the statement")
    changed = {}
    for number, part in enumerate(plan.parts):
        if has_signal(part) and plan.binder(number) == local:
            changed[number] = (part[0], signal) + part[2:]
    return rebuilt(plan, changed)


def are_signals(thing):
    """Whether thing is a tuple of at most 8 signals."""
    if not isinstance(thing, tuple) or len(thing) > MOST_SIGNALS:
        return False
    return all(is_signal(item) for item in thing)


def is_closed(plan, names):
    """Whether the free signals of the plan are among names, and no exit leads out of it."""
    return all(name in names for name in free_names(plan)) and not leading_out(plan)


def is_program(thing):
    """Whether thing, any value, is a program."""
    if not is_tuple_of(thing, 3) or not are_signals(thing[0]) or not are_signals(thing[1]):
        return False
    names = thing[0] + thing[1]
    if len(set(names)) < len(names):
        return False
    plan = statement_plan(thing[2])
    return plan is not None and is_closed(plan, names)


def check_program(program):
    """Raise BadProgram unless program is one."""
    if not is_program(program):
        raise BadProgram("not a program")


def state_fits(program, thing):
    """Whether thing, any value, is a state of what is known to be a program."""
    if thing is None:
        return True
    plan = rest_plan(thing)
    return plan is not None and is_closed(plan, program[0] + program[1])


def is_state(program, thing):
    """Whether thing, any value, is a state of the program."""
    check_program(program)
    return state_fits(program, thing)
