"""All states that a program reaches, and what it tells in each of their instants."""

from restsure.errors import BadNumber, TooMany
from restsure.kinds import bit_rows, is_below
from restsure.sights import Scene, given_masks
from restsure.statements import check_program

MOST_STATES = 200


class Reach:
    """The reached states of a program, numbered as they are found.

    table: by state, the tuples that have by given what is told there; found: for each state but
    the first one the pair (state, given) by which it was found; rows: the given ones ascending.
    """

    def __init__(self, program):
        self.rows = bit_rows(len(program[0]))
        self.states = [program[2]]
        # A statement may be deeper than a key may be: its text stands for it.
        self.texts = {repr(program[2]): 0}
        self.table = []
        self.found = [None]
        masks = given_masks(program)
        while len(self.table) < len(self.states):
            scene = Scene(program, self.states[len(self.table)])
            told = [self.tell(scene, at, given) for at, given in enumerate(masks)]
            self.table.append(tuple(told))

    def tell(self, scene, at, given):
        """What is told in one instant of the state that is looked at, None if it is not sure."""
        sight = scene.last(given)
        if not sight.is_sure():
            return None
        state = scene.rest(sight)
        text = scene.label(sight)
        if text not in self.texts:
            if len(self.states) == MOST_STATES:
                raise TooMany(MOST_STATES)
            self.texts[text] = len(self.states)
            self.states.append(state)
            self.found.append((len(self.table), self.rows[at]))
        return scene.totals(sight, given), 0 if state is None else 1, self.texts[text]

    def row_to(self, number):
        """The first one of the shortest rows that lead to the state of this number, a tuple."""
        row = []
        while number > 0:
            number, given = self.found[number]
            row.append(given)
        return tuple(reversed(row))

    def ended(self):
        """The number of None, or how many states there are if it is not reached."""
        return self.texts.get(repr(None), len(self.states))


def reach_of(program):
    """What the program reaches; BadProgram, and TooMany as reached tells."""
    check_program(program)
    return Reach(program)


def reached(program):
    """The pair of the list of the reached states and of what is told in their instants."""
    reach = reach_of(program)
    return reach.states, reach.table


def row_to(program, number):
    """The first one of the shortest rows that lead to the state of this number."""
    reach = reach_of(program)
    if not is_below(number, len(reach.states)):
        raise BadNumber("not the number of a reached state")
    return reach.row_to(number)
