"""A program for each machine that does not emit its own inputs."""

from restsure.errors import BadNames, NotPlain, TooMany
from restsure.kinds import bit_rows, is_signal
from restsure.machines import check_machine, least
from restsure.plans import MOST_PARTS
from restsure.statements import is_statement

NOTHING = ("nothing",)
PAUSE = ("pause",)
LETTERS = "abcdefghijklmnopqrstuvwxyz"


def are_names(thing, many):
    """Whether thing is a tuple of so many unlike signals."""
    if not isinstance(thing, tuple) or len(thing) != many:
        return False
    return all(is_signal(item) for item in thing) and len(set(thing)) == many


def is_plain(machine):
    """Whether the totals of the inputs are the given bits everywhere."""
    rows = bit_rows(machine[0])
    for state in machine[2]:
        for given, pair in zip(rows, state):
            if pair[0][:machine[0]] != given:
                return False
    return True


def other_names(taken, many):
    """So many signals that are not among those taken."""
    found = []
    for first in LETTERS:
        for second in LETTERS:
            name = "s" + first + second
            if name not in taken and len(found) < many:
                found.append(name)
    return found


def in_row(statements):
    """The statements one behind the other."""
    told = statements[-1]
    for part in reversed(statements[:-1]):
        told = ("seq", part, told)
    return told


def side_by_side(statements):
    """The statements side by side, in few levels."""
    rows = list(statements)
    while len(rows) > 1:
        pairs = [("par", rows[at], rows[at + 1]) for at in range(0, len(rows) - 1, 2)]
        rows = pairs + rows[len(pairs) * 2:]
    return rows[0]


def asked_for(names, leaves):
    """Ifs of the names around the leaves, by bits ascending; none where both sides are the same."""
    rows = list(leaves)
    for name in reversed(names):
        told = []
        for at in range(0, len(rows), 2):
            low, high = rows[at], rows[at + 1]
            told.append(low if low == high else ("if", name, high, low))
        rows = told
    return rows[0]


def state_loop(machine, state, names, inputs, outputs):
    """What is done over and over again for one state of the machine."""
    leaves = []
    for totals, following in machine[2][state]:
        row = [("emit", name) for name, bit in zip(outputs, totals[machine[0]:]) if bit]
        if following is None:
            row.append(("exit", 0))
        else:
            row.extend([PAUSE, ("emit", names[following])])
        leaves.append(in_row(row))
    return ("loop", ("if", names[state], asked_for(inputs, leaves), PAUSE))


def program_of(machine, inputs, outputs):
    """A program that tells the same as the machine along all rows."""
    check_machine(machine)
    if not are_names(inputs, machine[0]):
        raise BadNames("not as many unlike signals as the machine has inputs")
    if not are_names(outputs, machine[1]) or any(name in inputs for name in outputs):
        raise BadNames("not as many unlike other signals as the machine has outputs")
    if not is_plain(machine):
        raise NotPlain("a machine that emits its own inputs")
    small = least(machine)
    names = other_names(inputs + outputs, len(small[2]))
    loops = [state_loop(small, state, names, inputs, outputs) for state in range(len(small[2]))]
    body = side_by_side([("emit", names[0])] + loops)
    for name in names:
        body = ("local", name, body)
    body = ("trap", body)
    if not is_statement(body):
        raise TooMany(MOST_PARTS)
    return inputs, outputs, body
