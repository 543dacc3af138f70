"""The document's words on reached states, machines, games once more, as plainly as can be."""

import itertools

from tests import plainly, plainwords


def givens(many):
    return list(itertools.product((0, 1), repeat=many))


def rows_up_to(inputs, most):
    """All rows, short ones ahead of long ones, ascending among those of one length."""
    for length in range(most + 1):
        yield from itertools.product(givens(inputs), repeat=length)


def place(states, state):
    """Its number, -1 if it is not there; 1 and True are not one here, as nothing is among them."""
    for number, other in enumerate(states):
        if other == state:
            return number
    return -1


def reached(prog):
    states, table = [prog[2]], []
    while len(table) < len(states):
        row = []
        for given in givens(len(prog[0])):
            told = plainwords.react(prog, states[len(table)], given)
            if told is not None:
                if place(states, told[2]) < 0:
                    states.append(told[2])
                told = told[:2] + (place(states, told[2]),)
            row.append(told)
        table.append(tuple(row))
    return states, table


def tell(prog, row):
    """What it tells along the row, by (totals, code)."""
    told, state = [], prog[2]
    for given in row:
        instant = plainwords.react(prog, state, given)
        if instant is None:
            return told + [None]
        told.append(instant[:2])
        state = instant[2]
    return told


def row(thing, inputs):
    return type(thing) in (list, tuple) and len(thing) <= 400 and all(plainly.bits(given, inputs) for given in thing)


def is_sure_paper(prog, thing):
    if type(thing) is not tuple or len(thing) != 3:
        return False
    if thing[0] == "sure":
        _, states, papers = thing
        if type(states) not in (list, tuple) or type(papers) not in (list, tuple) or not 1 <= len(states) <= 200:
            return False
        if not all(plainwords.state(prog, state) for state in states) or states[0] != prog[2]:
            return False
        if len(papers) != len(states) or any(place(states, state) != at for at, state in enumerate(states)):
            return False
        for state, told in zip(states, papers):
            if type(told) is not tuple or len(told) != 2 ** len(prog[0]):
                return False
            for given, paper in zip(givens(len(prog[0])), told):
                if not plainwords.is_shown_sure(prog, state, given, paper) or paper[0] != "sure":
                    return False
                if place(states, plainwords.react(prog, state, given)[2]) < 0:
                    return False
        return True
    if thing[0] != "unsure" or not row(thing[1], len(prog[0])) or not thing[1]:
        return False
    state = prog[2]
    for given in thing[1][:-1]:
        told = plainwords.react(prog, state, given)
        if told is None:
            return False
        state = told[2]
    return plainwords.is_shown_sure(prog, state, thing[1][-1], thing[2]) and thing[2][0] == "unsure"


def machine(thing):
    if type(thing) is not tuple or len(thing) != 3 or not all(plainly.number(x, 0, 8) for x in thing[:2]):
        return False
    inputs, outputs, states = thing
    if type(states) is not tuple or not 1 <= len(states) <= 200:
        return False
    for state in states:
        if type(state) is not tuple or len(state) != 2 ** inputs:
            return False
        for given, pair in zip(givens(inputs), state):
            if type(pair) is not tuple or len(pair) != 2 or not plainly.bits(pair[0], inputs + outputs):
                return False
            if any(a < b for a, b in zip(pair[0], given)):
                return False
            if pair[1] is not None and not plainly.number(pair[1], 0, len(states) - 1):
                return False
    return True


def step(what, state, given):
    """The triple (totals, code, next) of a machine in a state, or None."""
    if state is None:
        return given + (0,) * what[1], 0, None
    totals, following = what[2][state][givens(what[0]).index(given)]
    return totals, 0 if following is None else 1, following


def run(what, row, state=0):
    told = []
    for given in row:
        totals, code, state = step(what, state, given)
        told.append((totals, code))
    return told


def same_pairs(what, other):
    """All pairs of states of two machines from which the same is told along all rows."""
    lots = [list(range(len(x[2]))) + [None] for x in (what, other)]
    same = {(x, y): True for x in lots[0] for y in lots[1]}
    while True:
        gone = []
        for x, y in same:
            for given in givens(what[0]):
                one, two = step(what, x, given), step(other, y, given)
                if one[:2] != two[:2] or (one[2], two[2]) not in same:
                    gone.append((x, y))
                    break
        if not gone:
            return same
        for pair in gone:
            del same[pair]


def first_parting(what, one, other, most):
    """The first one of the shortest rows of at most so many along which not the same is told."""
    for found in rows_up_to(what[0], most):
        if run(what, found, one) != run(what, found, other):
            return found
    return None


def never(reach, place):
    """The numbers, or the pair (number, index of given), in the order of the states."""
    for number, row in enumerate(reach[1]):
        for index, told in enumerate(row):
            if told[0][place]:
                return number, index
    return tuple(range(len(reach[0])))


def can_go_without(reach, place):
    """The states from which, for some given ones for ever, the signal is never there."""
    good = set(range(len(reach[0])))
    while True:
        more = {n for n in good if any(not told[0][place] and told[2] in good for told in reach[1][n])}
        if more == good:
            return good
        good = more


def most_instants(reach, place, number):
    """The greatest number of instants until the signal is there, where it surely comes."""
    return 1 + max([most_instants(reach, place, told[2]) for told in reach[1][number] if not told[0][place]], default=0)


def quiet_states(reach, place):
    """The states that are met from the first one without the signal."""
    met, done = [0], 0
    while done < len(met):
        for told in reach[1][met[done]]:
            if not told[0][place] and told[2] not in met:
                met.append(told[2])
        done += 1
    return met


def is_coming(prog, reach, place, thing):
    if type(thing) is not tuple or len(thing) not in (2, 3):
        return False
    if thing[0] == "comes" and len(thing) == 2:
        ranks = thing[1]
        if type(ranks) is not dict or not all(plainly.number(n, 0, len(reach[0]) - 1) for n in ranks) or 0 not in ranks:
            return False
        if not all(plainly.number(rank, 0, 10 ** 9) for rank in ranks.values()):
            return False
        return all(told[0][place] or ranks.get(told[2], 10 ** 9) < ranks[n] for n in ranks for told in reach[1][n])
    if thing[0] != "without" or len(thing) != 3 or not all(row(x, len(prog[0])) for x in thing[1:]) or not thing[2]:
        return False
    state, begun = 0, None
    for at, given in enumerate(list(thing[1]) + list(thing[2])):
        if at == len(thing[1]):
            begun = state
        told = reach[1][state][givens(len(prog[0])).index(given)]
        if told[0][place]:
            return False
        state = told[2]
    return state == begun


def woven(prog, own, mine, theirs):
    """The given bits of own and foreign ones."""
    mine, theirs = list(mine), list(theirs)
    return tuple((mine if name in own else theirs).pop(0) for name in prog[0])


def game(prog, reach, own, place):
    """A function from state, own bits, foreign bits to the next state, None where the signal is there."""
    def told(number, mine, theirs):
        totals, _, following = reach[1][number][givens(len(prog[0])).index(woven(prog, own, mine, theirs))]
        return None if totals[place] else following
    return told


def forced(prog, reach, own, word, place):
    """The dict from the states from which the signal can be forced to the fewest instants, by going backwards."""
    told = game(prog, reach, own, place)
    mines, others = givens(len(own)), givens(len(prog[0]) - len(own))
    ranks = {}
    for rank in range(1, len(reach[0]) + 1):
        more = {}
        for n in range(len(reach[0])):
            def hit(mine, theirs):
                return told(n, mine, theirs) is None or told(n, mine, theirs) in ranks
            if word == "seeing":
                loses = any(all(hit(mine, theirs) for mine in mines) for theirs in others)
            else:
                loses = all(any(hit(mine, theirs) for theirs in others) for mine in mines)
            if loses and n not in ranks:
                more[n] = rank
        ranks.update(more)
    return ranks


def steering(prog, reach, own, word, place):
    told = game(prog, reach, own, place)
    mines, others = givens(len(own)), givens(len(prog[0]) - len(own))
    ranks = forced(prog, reach, own, word, place)
    if 0 not in ranks:
        kept = [n for n in range(len(reach[0])) if n not in ranks]
        if word == "blind":
            return "kept", {n: next(m for m in mines if all(told(n, m, t) in kept for t in others)) for n in kept}
        return "kept", {n: tuple(next(m for m in mines if told(n, m, t) in kept) for t in others) for n in kept}

    def falls(n, m, t):
        return told(n, m, t) is None or ranks.get(told(n, m, t), 10 ** 9) < ranks[n]
    if word == "seeing":
        return "lost", {n: (ranks[n], next(t for t in others if all(falls(n, m, t) for m in mines))) for n in sorted(ranks)}
    return "lost", {n: (ranks[n], tuple(next(t for t in others if falls(n, m, t)) for m in mines)) for n in sorted(ranks)}


def is_steering(prog, reach, own, word, place, thing):
    told = game(prog, reach, own, place)
    mines, others = givens(len(own)), givens(len(prog[0]) - len(own))
    if type(thing) is not tuple or len(thing) != 2 or type(thing[1]) is not dict or thing[0] not in ("kept", "lost"):
        return False
    if not all(plainly.number(n, 0, len(reach[0]) - 1) for n in thing[1]) or 0 not in thing[1]:
        return False
    for n, what in thing[1].items():
        if thing[0] == "lost":
            if type(what) is not tuple or len(what) != 2 or not plainly.number(what[0], 1, 10 ** 9):
                return False
            what = what[1]
        many, rows = (len(others), mines) if thing[0] == "kept" else (len(mines), others)
        single = (word == "blind") == (thing[0] == "kept")
        if not single and (type(what) is not tuple or len(what) != many):
            return False
        if not all(plainly.bits(x, len(rows[0])) for x in ([what] if single else what)):
            return False
    for n, what in thing[1].items():
        for (a, m), (b, t) in itertools.product(enumerate(mines), enumerate(others)):
            if thing[0] == "kept":
                if m == (what if word == "blind" else what[b]) and told(n, m, t) not in thing[1]:
                    return False
            elif t == (what[1] if word == "seeing" else what[1][a]):
                if told(n, m, t) is not None and (told(n, m, t) not in thing[1] or thing[1][told(n, m, t)][0] >= what[0]):
                    return False
    return True


def is_alike_paper(one, other, thing):
    if type(thing) is not tuple or len(thing) != 2:
        return False
    if thing[0] == "row":
        return row(thing[1], len(one[0])) and tell(one, thing[1]) != tell(other, thing[1])
    if thing[0] != "alike" or type(thing[1]) not in (list, tuple):
        return False
    pairs = thing[1]
    for pair in pairs:
        if type(pair) is not tuple or len(pair) != 2 or not plainwords.state(one, pair[0]) or not plainwords.state(other, pair[1]):
            return False
    if (one[2], other[2]) not in pairs:
        return False
    for x, y in pairs:
        for given in givens(len(one[0])):
            a, b = plainwords.react(one, x, given), plainwords.react(other, y, given)
            if (a is None) != (b is None):
                return False
            if a is not None and (a[:2] != b[:2] or (a[2], b[2]) not in pairs):
                return False
    return True


def alike(one, other):
    """Whether they tell the same along all rows, by all pairs of states that are met."""
    tables = [reached(one)[1], reached(other)[1]]
    met, done = [(0, 0)], 0
    while done < len(met):
        for a, b in zip(tables[0][met[done][0]], tables[1][met[done][1]]):
            if (a and a[:2]) != (b and b[:2]):
                return False
            if a is not None and (a[2], b[2]) not in met:
                met.append((a[2], b[2]))
        done += 1
    return True
