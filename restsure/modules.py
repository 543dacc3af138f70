"""Modules: what they run, and what comes of them if all that they run is put in their place."""

from restsure.kinds import is_tuple_of
from restsure.knots import knots
from restsure.opens import RUN, exchanged, leaves_of, open_plan
from restsure.plans import MOST_LEVELS, MOST_PARTS, has_signal
from restsure.statements import are_signals, is_program, rebuilt


def binder_of(plan, number, signal):
    """The number of the local that this signal means at a statement, -1 if it is free there."""
    up = plan.ups[number]
    while up >= 0:
        if plan.parts[up][0] == "local" and plan.parts[up][1] == signal:
            return up
        up = plan.ups[up]
    return -1


def open_names(plan):
    """The list of the free signals of an open statement."""
    found = []
    for number, part in enumerate(plan.parts):
        if part[0] == RUN:
            found.extend([second for _, second in part[2] if binder_of(plan, number, second) < 0])
        elif has_signal(part) and plan.binder(number) < 0:
            found.append(part[1])
    return found


def is_module(thing):
    """Whether thing, any value, is a module."""
    if not is_tuple_of(thing, 3) or not are_signals(thing[0]) or not are_signals(thing[1]):
        return False
    names = thing[0] + thing[1]
    if len(set(names)) < len(names):
        return False
    plan = open_plan(thing[2], RUN, MOST_PARTS, MOST_LEVELS)
    return plan is not None and all(name in names for name in open_names(plan))


def plan_in(body, levels):
    """The plan of an open statement that is known to be one."""
    return open_plan(body, RUN, MOST_PARTS, levels)


def runs_in(module):
    """The list of the runs in the body of a module."""
    plan = plan_in(module[2], MOST_LEVELS)
    return [plan.parts[number] for number in leaves_of(plan, RUN)]


def names_run(module):
    """The ascending list of the names of the modules that are run in a module."""
    return sorted(set([run[1] for run in runs_in(module)]))


def names_led_to(modules, name):
    """The ascending list of this name and of all to which it leads by runs, here or not."""
    found = {name: True}
    near = [name]
    while near:
        at = near.pop()
        for further in names_run(modules[at]) if at in modules else []:
            if further not in found:
                found[further] = True
                near.append(further)
    return sorted(found)


def names_in_rings(modules, names):
    """The list of those of these names, all of them here, that lead back to themselves."""
    numbers = {name: number for number, name in enumerate(names)}
    leads = [[numbers[near] for near in names_run(modules[name])] for name in names]
    found = []
    for lot in knots(leads):
        if len(lot) > 1 or lot[0] in leads[lot[0]]:
            found.extend([names[number] for number in lot])
    return found


def fits(modules, run):
    """Whether what a run names first are just the inputs and outputs of its module."""
    inputs, outputs, _ = modules[run[1]]
    return sorted(inputs + outputs) == [first for first, _ in run[2]]


def expanded_size(modules, name, sizes):
    """How many statements the expanded body has; sizes, of modules that were asked, is filled."""
    if name not in sizes:
        plan = plan_in(modules[name][2], MOST_LEVELS)
        runs = leaves_of(plan, RUN)
        many = len(plan.parts) - len(runs)
        sizes[name] = many + sum([expanded_size(modules, plan.parts[number][1], sizes) for number in runs])
    return sizes[name]


class Expanding:
    """The expanded bodies of modules, as far as they are asked, and the signals that are caught."""

    def __init__(self, modules):
        self.modules = modules
        self.bodies = {}
        self.caught = []

    def body(self, name):
        """The expanded body of the module of this name."""
        if name not in self.bodies:
            plan = plan_in(self.modules[name][2], MOST_LEVELS)
            told = {number: self.ran(plan.parts[number]) for number in leaves_of(plan, RUN)}
            self.bodies[name] = exchanged(plan, told)
        return self.bodies[name]

    def ran(self, run):
        """The expanded body of the module that is run, with the signals that the run names."""
        # Bodies within bodies may be deeper than one may be, but have no more statements.
        plan = plan_in(self.body(run[1]), MOST_PARTS)
        passed = {first: second for first, second in run[2]}
        changed = {}
        for number, part in enumerate(plan.parts):
            if not has_signal(part) or plan.binder(number) >= 0:
                continue
            second = passed[part[1]]
            if binder_of(plan, number, second) >= 0:
                self.caught.append(second)
            changed[number] = (part[0], second) + part[2:]
        return rebuilt(plan, changed)


def trouble_of(modules, name):
    """The pair of a word and of what comes of a module that is here.

    The words: "missing", "ring", "unfit" with a name, "caught" with a signal, "wrong" with None;
    or "fine" with the program.
    """
    names = names_led_to(modules, name)
    missing = [other for other in names if other not in modules]
    if missing:
        return "missing", missing[0]
    rings = names_in_rings(modules, names)
    if rings:
        return "ring", min(rings)
    unfit = [other for other in names if not all(fits(modules, run) for run in runs_in(modules[other]))]
    if unfit:
        return "unfit", unfit[0]
    if expanded_size(modules, name, {}) > MOST_PARTS:
        return "wrong", None
    work = Expanding(modules)
    program = modules[name][:2] + (work.body(name),)
    if work.caught:
        return "caught", min(work.caught)
    if not is_program(program):
        return "wrong", None
    return "fine", program
