"""What never is there along any row of inputs, and what surely comes."""

from restsure.errors import BadSignal
from restsure.instants import MOST_ROWS
from restsure.kinds import is_below, is_bits, is_number, is_row, is_tuple_of
from restsure.sureness import sure_reach


class Watch:
    """The reached states of a sure program, and where a signal of it is not there.

    quiet: by state, the pairs (index of given, next state) of the instants without the signal.
    """

    def __init__(self, program, signal):
        self.reach = sure_reach(program)
        names = program[0] + program[1]
        if signal not in names:
            raise BadSignal("not an input or an output of the program")
        self.place = names.index(signal)
        self.quiet = []
        for state in self.reach.table:
            self.quiet.append([(index, told[2]) for index, told in enumerate(state)
                               if told[0][self.place] == 0])


def never(program, signal):
    """The numbers of all reached states, or a row in whose last instant the signal is there."""
    watch = Watch(program, signal)
    reach = watch.reach
    for number, state in enumerate(reach.table):
        for index, told in enumerate(state):
            if told[0][watch.place] == 1:
                return "row", reach.row_to(number) + (reach.rows[index],)
    return "never", tuple(range(len(reach.states)))


def quietly_met(watch):
    """The dict from the states that are met without the signal to (state, given) of the way there."""
    met = {0: None}
    found = [0]
    done = 0
    while done < len(found):
        for index, following in watch.quiet[found[done]]:
            if following not in met:
                met[following] = (found[done], watch.reach.rows[index])
                found.append(following)
        done += 1
    return met


def least_ranks(watch, met):
    """The dict of the least ranks of those states that are met and have ranks."""
    ranks = {}
    waiting = sorted(met)
    while waiting:
        later = []
        for number in waiting:
            following = sorted(set([told[1] for told in watch.quiet[number]]))
            if all([state in ranks for state in following]):
                ranks[number] = max([ranks[state] + 1 for state in following], default=0)
            else:
                later.append(number)
        if len(later) == len(waiting):
            return ranks
        waiting = later
    return ranks


def quiet_loop(watch, met, ranks):
    """The pair (row, loop) of a way without the signal to a state without a rank, and back to it."""
    way = [min([number for number in met if number not in ranks])]
    steps = []
    while way.count(way[-1]) == 1:
        told = [told for told in watch.quiet[way[-1]] if told[1] not in ranks]
        steps.append(watch.reach.rows[told[0][0]])
        way.append(told[0][1])
    row = []
    number = way[-1]
    while met[number] is not None:
        number, given = met[number]
        row.append(given)
    return tuple(reversed(row)), tuple(steps[way.index(way[-1]):])


def comes(program, signal):
    """Ranks that show that the signal surely comes, or a row and a loop without it."""
    watch = Watch(program, signal)
    met = quietly_met(watch)
    ranks = least_ranks(watch, met)
    if len(ranks) == len(met):
        return "comes", {number: ranks[number] for number in sorted(ranks)}
    row, loop = quiet_loop(watch, met, ranks)
    return "without", row, loop


def are_ranks(watch, thing):
    """Whether thing, any value, is a dict of ranks of reached states that fall until it comes."""
    if not isinstance(thing, dict):
        return False
    many = len(watch.reach.states)
    for number, rank in thing.items():
        # Asked ahead of all look-ups: a bool would be found as if it were a number.
        if not is_below(number, many) or not is_number(rank) or rank < 0:
            return False
    if 0 not in thing:
        return False
    for number, rank in thing.items():
        for _, following in watch.quiet[number]:
            if following not in thing or thing[following] >= rank:
                return False
    return True


def quiet_way(watch, number, row):
    """The state to which row leads from a state without the signal; None if it does not."""
    for given in row:
        following = dict(watch.quiet[number]).get(watch.reach.rows.index(given))
        if following is None:
            return None
        number = following
    return number


def is_quiet_for_ever(watch, row, loop):
    """Whether row and loop, any values, lead on without the signal for ever."""
    width = len(watch.reach.rows[0])
    for rows in (row, loop):
        if not is_row(rows) or len(rows) > MOST_ROWS:
            return False
        if not all(is_bits(given, width) for given in rows):
            return False
    if not loop:
        return False
    number = quiet_way(watch, 0, row)
    return number is not None and quiet_way(watch, number, loop) == number


def is_coming(program, signal, thing):
    """Whether thing, any value, shows that the signal surely comes, or that it need not."""
    watch = Watch(program, signal)
    if is_tuple_of(thing, 2) and thing[0] == "comes":
        return are_ranks(watch, thing[1])
    if is_tuple_of(thing, 3) and thing[0] == "without":
        return is_quiet_for_ever(watch, thing[1], thing[2])
    return False
