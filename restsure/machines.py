"""Machines: what a sure program tells in each state, whatever its statements are."""

from restsure.errors import BadMachine, BadRow, BadState
from restsure.instants import MOST_ROWS
from restsure.kinds import bit_rows, is_below, is_bits, is_row, is_tuple_of
from restsure.reached import MOST_STATES
from restsure.sureness import sure_reach

MOST_WIDTH = 8


def is_pair_of_state(thing, given, outputs, many):
    """Whether thing, any value, is a pair (totals, next) of a state of so many, for these given."""
    if not is_tuple_of(thing, 2) or not is_bits(thing[0], len(given) + outputs):
        return False
    if not all(total >= bit for total, bit in zip(thing[0], given)):
        return False
    return thing[1] is None or is_below(thing[1], many)


def is_machine(thing):
    """Whether thing, any value, is a machine."""
    if not is_tuple_of(thing, 3):
        return False
    inputs, outputs, states = thing
    if not is_below(inputs, MOST_WIDTH + 1) or not is_below(outputs, MOST_WIDTH + 1):
        return False
    if not isinstance(states, tuple) or not 1 <= len(states) <= MOST_STATES:
        return False
    rows = bit_rows(inputs)
    for state in states:
        if not is_tuple_of(state, len(rows)):
            return False
        for given, pair in zip(rows, state):
            if not is_pair_of_state(pair, given, outputs, len(states)):
                return False
    return True


def check_machine(machine):
    """Raise BadMachine unless machine is one."""
    if not is_machine(machine):
        raise BadMachine("not a machine")


def machine_of(program):
    """The machine of the reached states of a sure program."""
    reach = sure_reach(program)
    ended = reach.ended()
    states = []
    for number, told in enumerate(reach.table):
        if number != ended:
            states.append(tuple([(totals, numbered_without(ended, following))
                                 for totals, _, following in told]))
    return len(program[0]), len(program[1]), tuple(states)


def numbered_without(ended, number):
    """The number of a state when the one that has ended is left out, which is None then."""
    if number == ended:
        return None
    return number - 1 if number > ended else number


def ended_state(machine):
    """What a machine tells, and is told as next, when it has ended."""
    none = (0,) * machine[1]
    return tuple([(given + none, None) for given in bit_rows(machine[0])])


def run_machine(machine, row):
    """The list of what the machine tells along the row."""
    check_machine(machine)
    inputs = machine[0]
    if not is_row(row) or len(row) > MOST_ROWS or not all(is_bits(given, inputs) for given in row):
        raise BadRow("not a list of at most 400 tuples of bits of the inputs")
    indexes = {given: index for index, given in enumerate(bit_rows(inputs))}
    ended = ended_state(machine)
    told = []
    state = 0
    for given in row:
        pairs = ended if state is None else machine[2][state]
        totals, state = pairs[indexes[given]]
        told.append((totals, 0 if state is None else 1))
    return told


def refined(states, lots):
    """The lots of the states by what they tell, and by the lots of the next states.

    lots are numbers, by state; the last state is the ended one, to which None leads, too.
    """
    numbers = {}
    told = []
    for state in states:
        key = tuple([(totals, None if following is None else lots[following])
                     for totals, following in state])
        if key not in numbers:
            numbers[key] = len(numbers)
        told.append(numbers[key])
    return told


def refined_often(states):
    """The list of the lots of the states behind 0, 1, 2 .. instants, up to the first that stay."""
    told = [[0] * len(states)]
    while True:
        more = refined(states, told[-1])
        # Lots are only ever parted, and numbered as they are met: as many are the same ones.
        if max(more) == max(told[-1]):
            return told
        told.append(more)


def parted(machine, one, other):
    """The first one of the shortest rows along which not the same is told from both; or None."""
    check_machine(machine)
    states = machine[2] + (ended_state(machine),)
    ended = len(machine[2])
    for state in (one, other):
        if state is not None and not is_below(state, ended):
            raise BadState("not the number of a state, and not None")
    levels = refined_often(states)
    pair = (ended if one is None else one, ended if other is None else other)
    if levels[-1][pair[0]] == levels[-1][pair[1]]:
        return None
    length = 0
    while levels[length][pair[0]] == levels[length][pair[1]]:
        length += 1
    rows = bit_rows(machine[0])
    told = []
    for left in reversed(range(length)):
        index, pair = first_parting(states, levels[left], pair)
        told.append(rows[index])
    return tuple(told)


def first_parting(states, lots, pair):
    """The first index of given at which two states tell unlike ones, or lead to unlike lots.

    The pair of it and of the pair of the next states; the last state stands for None.
    """
    for index, (one, other) in enumerate(zip(states[pair[0]], states[pair[1]])):
        following = [len(states) - 1 if told[1] is None else told[1] for told in (one, other)]
        ends = (one[1] is None) != (other[1] is None)
        if one[0] != other[0] or ends or lots[following[0]] != lots[following[1]]:
            return index, following
    return 0, pair


def least(machine):
    """The machine of the fewest states that tells the same along all rows."""
    check_machine(machine)
    lots = refined_often(machine[2] + (ended_state(machine),))[-1]
    numbers = {lots[0]: 0}
    found = [0]
    states = []
    while len(states) < len(found):
        told = []
        for totals, following in machine[2][found[len(states)]]:
            if following is not None and lots[following] not in numbers:
                numbers[lots[following]] = len(found)
                found.append(following)
            told.append((totals, None if following is None else numbers[lots[following]]))
        states.append(tuple(told))
    return machine[0], machine[1], tuple(states)
