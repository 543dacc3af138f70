"""The document's words on lines, standings, diagrams and texts once more, as plainly as can be."""

import itertools

from tests import plainly


def line(what, thing):
    return type(thing) is tuple and len(thing) <= 20000 and all(plainly.number(x, 0, len(what[2]) - 1) for x in thing)


def cases(what, thing):
    if type(thing) not in (list, tuple) or not 1 <= len(thing) <= 4096:
        return False
    return all(type(x) is tuple and len(x) == 2 and plainly.bits(x[0], what[0]) and plainly.bits(x[1], len(what[1]))
               for x in thing)


def all_cases(what):
    return list(itertools.product(plainly.all_bits(what[0]), plainly.all_bits(len(what[1]))))


def whole_cases(what):
    return [case for case in all_cases(what) if None not in plainly.laps(what, *case)[0]]


def read_along(what, row, given, held):
    gates = [None] * len(what[2])
    for gate in row:
        gates[gate] = plainly.gate_reading(what, gate, given, held, gates)
    return gates


def set_along(what, row, given, held, start):
    gates = list(start)
    for gate in row:
        sources, table = what[2][gate]
        gates[gate] = plainly.come(table, [plainly.of_source(item, given, held, gates) for item in sources])
    return gates


def settles(what, row, many):
    return all(None not in read_along(what, row, *case) for case in many)


def told_behind(what, given, held, gates):
    """The outputs and the next bits of the registers by the bits of the gates."""
    outputs = tuple(plainly.of_source(item, given, held, gates) for item in what[3])
    return outputs, tuple(plainly.of_source(item, given, held, gates) for _, item in what[1])


def is_astray(what, row, case, start):
    sure, _ = plainly.laps(what, *case)
    gates = set_along(what, row, *case, start)
    return told_behind(what, *case, gates) != told_behind(what, *case, sure)


def wrong_starts(what, row, many):
    """All pairs of the index of a case and a start from which the line does not bring what is told."""
    return [(index, start) for index, case in enumerate(many) for start in plainly.all_bits(len(what[2]))
            if is_astray(what, row, case, start)]


def most_steps(what):
    """The squares of the sizes of the rings, and one for each other gate."""
    many = len(what[2])
    leads = {(gate, at) for gate, (sources, _) in enumerate(what[2]) for kind, at in sources if kind == "gate"}
    for middle, one, other in itertools.product(range(many), repeat=3):
        if (one, middle) in leads and (middle, other) in leads:
            leads.add((one, other))
    total = 0
    for gate in range(many):
        # Each gate of a ring counts as many steps as the ring has gates.
        total += sum((gate, other) in leads and (other, gate) in leads for other in range(many)) or 1
    return total


def standing(what, row, many):
    return tuple(tuple(read_along(what, row, *case)) for case in many)


def standings(what, many):
    """The dict from all standings behind lines to the lengths of the shortest of these."""
    start = standing(what, (), many)
    found = {start: 0}
    near = [start]
    while near:
        fresh = []
        for one in near:
            for gate in range(len(what[2])):
                other = over(what, many, one, gate)
                if other not in found:
                    found[other] = found[one] + 1
                    fresh.append(other)
        near = fresh
    return found


def over(what, many, one, gate):
    """The standing to which this one goes over behind a gate."""
    rows = []
    for case, gates in zip(many, one):
        gates = list(gates)
        gates[gate] = plainly.gate_reading(what, gate, *case, gates)
        rows.append(tuple(gates))
    return tuple(rows)


def is_fewest(what, many, row, paper):
    if not line(what, row) or not settles(what, row, many):
        return False
    if type(paper) is not tuple or len(paper) > 3000:
        return False
    numbers = {}
    for pair in paper:
        if type(pair) is not tuple or len(pair) != 2 or not plainly.number(pair[1], 0, 10 ** 9):
            return False
        one = pair[0]
        if type(one) is not tuple or len(one) != len(many) or not all(plainly.readings(x, len(what[2])) for x in one):
            return False
        if one in numbers:
            return False
        numbers[one] = pair[1]
    first = tuple((None,) * len(what[2]) for _ in many)
    if first not in numbers or numbers[first] < len(row):
        return False
    for one, number in numbers.items():
        if number and not any(None in gates for gates in one):
            return False
        for gate in range(len(what[2])):
            other = over(what, many, one, gate)
            if other != one and (other not in numbers or numbers[other] < number - 1):
                return False
    return True


def order(what, thing):
    wanted = [("in", at) for at in range(what[0])] + [("reg", at) for at in range(len(what[1]))]
    if type(thing) is not tuple or len(thing) != len(wanted):
        return False
    return sorted(map(repr, thing)) == sorted(map(repr, wanted))


def end(what, given, held):
    """The node at which a diagram ends there."""
    gates, _ = plainly.laps(what, given, held)
    return ("unsure",) if None in gates else ("end",) + told_behind(what, given, held, gates)


def tree(what, sources, given, held):
    """The node of the rest of the order, as a tree in which equal ones are not asked."""
    if not sources:
        return end(what, given, held)
    kind, at = sources[0]
    rows = []
    for bit in (0, 1):
        worth = {"in": list(given), "reg": list(held)}
        worth[kind][at] = bit
        rows.append(tree(what, sources[1:], worth["in"], worth["reg"]))
    return rows[0] if rows[0] == rows[1] else ("ask", sources[0], rows[0], rows[1])


def diagram(what, sources):
    """The reduced diagram: the tree with equal parts told once, numbered as they are met."""
    numbers, told = {}, []

    def meet(node):
        if repr(node) in numbers:
            return numbers[repr(node)]
        number = numbers[repr(node)] = len(told)
        told.append(node)
        if node[0] == "ask":
            told[number] = ("ask", node[1], meet(node[2]), meet(node[3]))
        return number

    meet(tree(what, sources, [0] * what[0], [0] * len(what[1])))
    return tuple(told)


def node(what, thing, many):
    if type(thing) is not tuple or not thing or type(thing[0]) is not str:
        return False
    if thing[0] == "ask":
        if len(thing) != 4 or type(thing[1]) is not tuple or len(thing[1]) != 2:
            return False
        return plainly.source(thing[1], what[0], len(what[1]), 0) and thing[1][0] != "bit" and all(
            plainly.number(at, 0, many - 1) for at in thing[2:])
    if thing[0] == "end":
        return len(thing) == 3 and plainly.bits(thing[1], len(what[3])) and plainly.bits(thing[2], len(what[1]))
    return thing == ("unsure",)


def reduced(what, sources, thing):
    if type(thing) is not tuple or not thing or not all(node(what, x, len(thing)) for x in thing):
        return False
    if any(one == other for one, other in itertools.combinations(thing, 2)):
        return False
    met = []

    def meet(at, ranks):
        if thing[at][0] == "ask":
            rank = sources.index(thing[at][1])
            if ranks and ranks[-1] >= rank or thing[at][2] == thing[at][3]:
                return False
        if at in met:
            return True
        met.append(at)
        return thing[at][0] != "ask" or all(meet(near, ranks + [rank]) for near in thing[at][2:])

    return meet(0, []) and met == list(range(len(thing)))


def rest_text(rest, tight=0):
    """The text of a rest statement, at a place of par (0), of seq (1), of neither (2)."""
    kind = rest[0]
    if kind == "par":
        text, own = rest_text(rest[1]) + " || " + rest_text(rest[2], 1), 0
    elif kind == "seq":
        text, own = rest_text(rest[1], 1) + "; " + rest_text(rest[2], 2), 1
    elif kind == "if":
        text, own = "IF %s {%s} ELSE {%s}" % (rest[1], rest_text(rest[2]), rest_text(rest[3])), 2
    elif kind in ("suspend", "hold", "local"):
        text, own = "%s %s {%s}" % (kind.upper(), rest[1], rest_text(rest[2])), 2
    elif kind in ("loop", "trap"):
        text, own = "%s {%s}" % (kind.upper(), rest_text(rest[1])), 2
    else:
        text, own = " ".join([kind.upper()] + [str(x) for x in rest[1:]]), 2
    return "(" + text + ")" if own < tight else text
