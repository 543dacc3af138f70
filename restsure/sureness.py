"""Whether a program is sure along all rows of inputs, with papers that show it."""

from restsure.errors import NotSure
from restsure.instants import MOST_ROWS
from restsure.kinds import is_bits, is_row, is_tuple_of
from restsure.reached import MOST_STATES, reach_of
from restsure.sights import Scene, given_mask, given_masks
from restsure.statements import check_program, state_fits


def first_unsure(reach):
    """The pair (state, index of given) of the first unsure instant; None if there is none."""
    for number, told in enumerate(reach.table):
        if None in told:
            return number, told.index(None)
    return None


def unsure_row(reach):
    """The first one of the shortest rows to an unsure instant, a tuple; None if all are sure."""
    first = first_unsure(reach)
    if first is None:
        return None
    return reach.row_to(first[0]) + (reach.rows[first[1]],)


def sure_reach(program):
    """What the program reaches; NotSure, behind the other errors, unless it is sure."""
    reach = reach_of(program)
    row = unsure_row(reach)
    if row is not None:
        raise NotSure(row)
    return reach


def sure_paper(program):
    """What shows that the program is sure, or that it is not."""
    reach = reach_of(program)
    masks = given_masks(program)
    first = first_unsure(reach)
    if first is not None:
        scene = Scene(program, reach.states[first[0]])
        return "unsure", unsure_row(reach), scene.paper(masks[first[1]])
    papers = []
    for state in reach.states:
        scene = Scene(program, state)
        papers.append(tuple([scene.paper(given) for given in masks]))
    return "sure", reach.states, papers


def texts_of(program, states):
    """The dict from the texts of states, any values, to them; None unless all are unlike states."""
    found = {}
    for state in states:
        if not state_fits(program, state) or repr(state) in found:
            return None
        found[repr(state)] = state
    return found


def are_all_sure(program, states, papers):
    """Whether these states, any value, and papers show the program to be sure."""
    if not is_row(states) or not 1 <= len(states) <= MOST_STATES:
        return False
    if not is_row(papers) or len(papers) != len(states):
        return False
    texts = texts_of(program, states)
    if texts is None or repr(states[0]) != repr(program[2]):
        return False
    return all(is_shown(program, state, row, texts) for state, row in zip(states, papers))


def is_shown(program, state, row, texts):
    """Whether row, any value, shows all instants of a state to be sure, and leads to texts alone."""
    masks = given_masks(program)
    if not is_tuple_of(row, len(masks)):
        return False
    scene = Scene(program, state)
    for given, paper in zip(masks, row):
        if not scene.shows(given, "sure", paper):
            return False
        if scene.label(scene.last(given)) not in texts:
            return False
    return True


def is_unsure_behind(program, row, paper):
    """Whether row, any value, leads by sure instants to one that paper shows to be unsure."""
    many = len(program[0])
    if not is_row(row) or not 1 <= len(row) <= MOST_ROWS:
        return False
    if not all(is_bits(given, many) for given in row):
        return False
    state = program[2]
    for at, bits in enumerate(row):
        given = given_mask(program, bits)
        scene = Scene(program, state)
        if at + 1 == len(row):
            return scene.shows(given, "unsure", paper)
        sight = scene.last(given)
        if not sight.is_sure() or scene.label(sight) == "":
            return False
        state = scene.rest(sight)
    return False


def is_sure_paper(program, thing):
    """Whether thing, any value, shows that the program is sure, or that it is not."""
    check_program(program)
    if not is_tuple_of(thing, 3):
        return False
    if thing[0] == "sure":
        return are_all_sure(program, thing[1], thing[2])
    return thing[0] == "unsure" and is_unsure_behind(program, thing[1], thing[2])
