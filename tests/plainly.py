"""The document's words on circuits once more, as plainly as can be, to compare with."""

import itertools


def number(thing, low, high):
    return type(thing) is int and low <= thing <= high


def bits(thing, many):
    return type(thing) is tuple and len(thing) == many and all(number(x, 0, 1) for x in thing)


def readings(thing, many):
    return type(thing) is tuple and len(thing) == many and all(x is None or number(x, 0, 1) for x in thing)


def source(thing, inputs, registers, gates):
    if type(thing) is not tuple or len(thing) != 2 or type(thing[0]) is not str:
        return False
    most = {"in": inputs, "reg": registers, "gate": gates, "bit": 2}
    return thing[0] in most and number(thing[1], 0, most[thing[0]] - 1)


def circuit(thing):
    if type(thing) is not tuple or len(thing) != 4 or not number(thing[0], 0, 8):
        return False
    for rows, most in zip(thing[1:], (60, 2000, 60)):
        if type(rows) is not tuple or len(rows) > most:
            return False
    inputs, registers, gates, outputs = thing
    sizes = (inputs, len(registers), len(gates))
    for row in registers:
        if type(row) is not tuple or len(row) != 2 or not number(row[0], 0, 1) or not source(row[1], *sizes):
            return False
    for row in gates:
        if type(row) is not tuple or len(row) != 2 or type(row[0]) is not tuple or len(row[0]) > 4:
            return False
        if not bits(row[1], 2 ** len(row[0])) or not all(source(x, *sizes) for x in row[0]):
            return False
    return all(source(x, *sizes) for x in outputs)


def come(table, worths):
    """The bit of the table at the index b0 + 2 b1 + 4 b2 + 8 b3."""
    return table[sum(bit * 2 ** place for place, bit in enumerate(worths))]


def reading(table, row):
    ways = [(0, 1) if item is None else (item,) for item in row]
    both = {come(table, worths) for worths in itertools.product(*ways)}
    return both.pop() if len(both) == 1 else None


def of_source(item, given, held, gates):
    kind, at = item
    return {"in": given, "reg": held, "gate": gates, "bit": (0, 1)}[kind][at]


def gate_reading(what, gate, given, held, gates):
    sources, table = what[2][gate]
    return reading(table, [of_source(item, given, held, gates) for item in sources])


def laps(what, given, held):
    """The pair of the sure readings and the laps."""
    gates = [None] * len(what[2])
    told = [None] * len(gates)
    lap = 0
    while True:
        lap += 1
        news = {}
        for gate in range(len(gates)):
            if gates[gate] is None:
                bit = gate_reading(what, gate, given, held, gates)
                if bit is not None:
                    news[gate] = bit
        if not news:
            return gates, told
        for gate, bit in news.items():
            gates[gate] = bit
            told[gate] = lap


def is_order(what, given, held, thing):
    if type(thing) is not tuple:
        return False
    gates = [None] * len(what[2])
    for pair in thing:
        if type(pair) is not tuple or len(pair) != 2 or not number(pair[0], 0, len(gates) - 1):
            return False
        if not number(pair[1], 0, 1) or gates[pair[0]] is not None:
            return False
        if gate_reading(what, pair[0], given, held, gates) != pair[1]:
            return False
        gates[pair[0]] = pair[1]
    return True


def is_closed_lot(what, given, held, order, lot):
    if not is_order(what, given, held, order):
        return False
    gates = [None] * len(what[2])
    for gate, bit in order:
        gates[gate] = bit
    others = [gate for gate in range(len(gates)) if gates[gate] is None]
    if type(lot) is not tuple or any(type(gate) is not int for gate in lot) or list(lot) != others:
        return False
    return all(gate_reading(what, gate, given, held, gates) is None for gate in lot)


def solutions(what, given, held):
    found = []
    for gates in itertools.product((0, 1), repeat=len(what[2])):
        if all(gate_reading(what, gate, given, held, gates) == gates[gate] for gate in range(len(gates))):
            found.append(gates)
    return found


def all_bits(many):
    return list(itertools.product((0, 1), repeat=many))


def all_readings(many):
    return list(itertools.product((0, 1, None), repeat=many))


def elements(what):
    gates = [("gate", gate) for gate in range(len(what[2]))]
    return gates + [("branch", gate, place) for gate in range(len(what[2])) for place in range(len(what[2][gate][0]))]


def standing(what, thing):
    if type(thing) is not tuple or len(thing) != 2 or not bits(thing[0], len(what[2])):
        return False
    if type(thing[1]) is not tuple or len(thing[1]) != len(what[2]):
        return False
    return all(bits(row, len(gate[0])) for row, gate in zip(thing[1], what[2]))


def comes_to(what, given, held, stand, element):
    if element[0] == "gate":
        return come(what[2][element[1]][1], stand[1][element[1]])
    return of_source(what[2][element[1]][0][element[2]], given, held, stand[0])


def bit_of(stand, element):
    return stand[0][element[1]] if element[0] == "gate" else stand[1][element[1]][element[2]]


def unsettled(what, given, held, stand):
    return [x for x in elements(what) if bit_of(stand, x) != comes_to(what, given, held, stand, x)]


def with_bit(stand, element, bit):
    gates = list(stand[0])
    branches = [list(row) for row in stand[1]]
    if element[0] == "gate":
        gates[element[1]] = bit
    else:
        branches[element[1]][element[2]] = bit
    return tuple(gates), tuple(tuple(row) for row in branches)


def step(what, given, held, stand, element):
    return with_bit(stand, element, comes_to(what, given, held, stand, element))


def standings(what):
    widths = [len(sources) for sources, _ in what[2]]
    for gates in all_bits(len(widths)):
        for flat in all_bits(sum(widths)):
            rows = []
            for width in widths:
                rows.append(flat[:width])
                flat = flat[width:]
            yield gates, tuple(rows)


def rounds(what, given, held, stand, steps):
    ends = []
    todo = set(unsettled(what, given, held, stand))
    for done, element in enumerate(steps, start=1):
        stand = step(what, given, held, stand, element)
        todo.discard(element)
        todo &= set(unsettled(what, given, held, stand))
        if not todo:
            ends.append(done)
            todo = set(unsettled(what, given, held, stand))
    return ends


def live_places(what, given, held):
    """The dict from the unsure gates to their live places."""
    gates, _ = laps(what, given, held)
    found = {}
    for gate, (sources, table) in enumerate(what[2]):
        if gates[gate] is not None:
            continue
        known = [of_source(item, given, held, gates) for item in sources]
        free = [place for place, bit in enumerate(known) if bit is None]
        found[gate] = []
        for place in free:
            for worths in itertools.product(*[(0, 1) if bit is None else (bit,) for bit in known]):
                other = list(worths)
                other[place] = 1 - other[place]
                if come(table, worths) != come(table, other):
                    found[gate].append(place)
                    break
    return found


def lots(what, given, held):
    """All lots, by trying all sets of unsure gates."""
    live = live_places(what, given, held)
    found = []
    for many in range(1, len(live) + 1):
        for lot in itertools.combinations(sorted(live), many):
            if all(what[2][gate][0][place][1] in lot for gate in lot for place in live[gate]):
                found.append(lot)
    return found


def own_lots(what, given, held):
    every = lots(what, given, held)
    return sorted(lot for lot in every if not any(set(other) < set(lot) for other in every))


def as_circuit(what, given, held, lot):
    """A circuit of the lot alone: its sources at live places, and names of its elements in the other one."""
    live = live_places(what, given, held)
    gates, _ = laps(what, given, held)
    rows = []
    names = {}
    for at, gate in enumerate(lot):
        sources, table = what[2][gate]
        known = [of_source(item, given, held, gates) for item in sources]
        names[("gate", gate)] = ("gate", at)
        for offset, place in enumerate(live[gate]):
            names[("branch", gate, place)] = ("branch", at, offset)
        small = []
        for worths in itertools.product((0, 1), repeat=len(live[gate])):
            row = [0 if bit is None else bit for bit in known]
            for place, bit in zip(live[gate], reversed(worths)):
                row[place] = bit
            small.append(come(table, row))
        rows.append((tuple(("gate", lot.index(sources[place][1])) for place in live[gate]), tuple(small)))
    return (0, (), tuple(rows), ()), names


def is_fair_loop(what, given, held, lot, thing):
    small, names = as_circuit(what, given, held, lot)
    if type(thing) is not tuple or len(thing) != 2 or not standing(small, thing[0]):
        return False
    if type(thing[1]) is not tuple or not 1 <= len(thing[1]) <= 20000:
        return False
    stand = thing[0]
    missing = set(unsettled(small, (), (), stand))
    moved = False
    for item in thing[1]:
        if repr(item) not in [repr(name) for name in names]:
            return False
        after = step(small, (), (), stand, names[item])
        moved = moved or after != stand
        stand = after
        missing.discard(names[item])
        missing &= set(unsettled(small, (), (), stand))
    return moved and not missing and stand == thing[0]


def are_two_rests(what, given, held, lot, thing):
    if type(thing) is not tuple or len(thing) != 2 or not all(bits(row, len(lot)) for row in thing):
        return False
    small, _ = as_circuit(what, given, held, lot)
    both = solutions(small, (), ())
    return thing[0] != thing[1] and thing[0] in both and thing[1] in both


def is_lot(what, given, held, thing):
    if type(thing) is not tuple or any(type(gate) is not int for gate in thing):
        return False
    return thing in lots(what, given, held)


def is_settling(what, given, held, thing):
    if type(thing) is not tuple or len(thing) != 2:
        return False
    gates, told = laps(what, given, held)
    if thing[0] == "yes":
        return type(thing[1]) is int and None not in gates and thing[1] == max(told, default=0)
    if thing[0] != "no" or type(thing[1]) is not tuple or len(thing[1]) != 3:
        return False
    lot, word, shown = thing[1]
    if not is_lot(what, given, held, lot):
        return False
    if word == "rests":
        return are_two_rests(what, given, held, lot, shown)
    return word == "loop" and is_fair_loop(what, given, held, lot, shown)


def comes_to_one_rest(what, given, held):
    """Whether all fair runs from all standings come to one and the same rest: by all standings."""
    every = list(standings(what))
    numbers = {stand: at for at, stand in enumerate(every)}
    loose = [unsettled(what, given, held, stand) for stand in every]
    leads = [[numbers[step(what, given, held, stand, x)] for x in loose[at]] for at, stand in enumerate(every)]
    if sum(1 for row in loose if not row) != 1:
        return False
    for knot in knots(leads):
        within = set(knot)
        stepped = {x for at in knot for x, to in zip(loose[at], leads[at]) if to in within}
        if stepped and all(x in stepped or any(x not in loose[at] for at in knot) for x in elements(what)):
            return False
    return True


def knots(leads):
    """The greatest lots of nodes that lead to each other, by two walks."""
    order, seen = [], set()
    for start in range(len(leads)):
        stack = [(start, iter(leads[start]))] if start not in seen else []
        seen.add(start)
        while stack:
            node, ways = stack[-1]
            for near in ways:
                if near not in seen:
                    seen.add(near)
                    stack.append((near, iter(leads[near])))
                    break
            else:
                stack.pop()
                order.append(node)
    back = [[] for _ in leads]
    for node, row in enumerate(leads):
        for near in row:
            back[near].append(node)
    taken, found = set(), []
    for start in reversed(order):
        if start in taken:
            continue
        taken.add(start)
        lot, stack = [start], [start]
        while stack:
            for near in back[stack.pop()]:
                if near not in taken:
                    taken.add(near)
                    lot.append(near)
                    stack.append(near)
        found.append(lot)
    return found
