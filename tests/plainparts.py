"""The document's words on parts, pieces and surroundings once more, as plainly as can be."""

import itertools

from tests import plainly, plainwords


def part(thing):
    return plainly.circuit(thing) and thing[0] <= 4 and len(thing[3]) <= 8


def is_frame(frame, what):
    return frame[0] >= len(what[3]) and len(frame[3]) >= what[0]


def joined(frame, what):
    """The joined circuit, as the document tells it."""
    own_in, own_out = frame[0] - len(what[3]), len(frame[3]) - what[0]
    first_way, first_gate = len(frame[2]), len(frame[2]) + what[0]

    def inner(source):
        kind, at = source
        return {"in": ("gate", first_way + at), "reg": ("reg", len(frame[1]) + at), "gate": ("gate", first_gate + at)}.get(kind, source)

    def outer(source):
        if source[0] == "in" and source[1] >= own_in:
            return inner(what[3][source[1] - own_in])
        return source

    def gates(rows, told):
        return tuple((tuple(told(source) for source in sources), table) for sources, table in rows)
    ways = tuple(((outer(source),), (0, 1)) for source in frame[3][own_out:])
    registers = tuple((bit, outer(source)) for bit, source in frame[1]) + tuple((bit, inner(source)) for bit, source in what[1])
    return own_in, registers, gates(frame[2], outer) + ways + gates(what[2], inner), tuple(outer(x) for x in frame[3][:own_out])


def opened(what, held, given):
    gates, _ = plainly.laps(what, given, held)
    return tuple(plainly.of_source(item, given, held, gates) for item in what[3])


def settled(what, held, given):
    gates, _ = plainly.laps(what, given, held)
    if None in gates:
        return None
    return opened(what, held, given), tuple(plainly.of_source(item, given, held, gates) for _, item in what[1])


def completed_by(readings, many):
    """Whether one of many bits completes the readings."""
    return any(all(a is None or a == b for a, b in zip(readings, bits)) for bits in many)


def held_fit(one, other, x, y):
    """Whether two parts fit that hold x and y, whatever they hold next."""
    both = {bits: (settled(one, x, bits), settled(other, y, bits)) for bits in plainly.all_bits(one[0])}
    if any((a is None) != (b is None) or a is not None and a[0] != b[0] for a, b in both.values()):
        return False
    good = [bits for bits, (a, _) in both.items() if a is not None]
    return all(opened(one, x, row) == opened(other, y, row) for row in plainly.all_readings(one[0]) if completed_by(row, good))


def held_next(one, other, x, y):
    """The pairs of what is held next, by bits for which both settle."""
    both = [(settled(one, x, bits), settled(other, y, bits)) for bits in plainly.all_bits(one[0])]
    return [(a[1], b[1]) for a, b in both if a is not None and b is not None]


def at_first(one, other):
    return tuple(bit for bit, _ in one[1]), tuple(bit for bit, _ in other[1])


def alike_pairs(one, other):
    """The greatest relation: all pairs that fit, without those that lead to others, again and again."""
    every = itertools.product(plainly.all_bits(len(one[1])), plainly.all_bits(len(other[1])))
    found = {pair for pair in every if held_fit(one, other, *pair)}
    while True:
        less = {pair for pair in found if all(near in found for near in held_next(one, other, *pair))}
        if less == found:
            return found
        found = less


def least_pairing(one, other):
    """The pairs that are met from the first one, ascending; None unless both do alike."""
    found = [at_first(one, other)]
    if found[0] not in alike_pairs(one, other):
        return None
    for pair in found:
        found += [near for near in dict.fromkeys(held_next(one, other, *pair)) if near not in found]
    return sorted(found)


def is_pairing(one, other, thing):
    if type(thing) not in (list, tuple):
        return False
    for pair in thing:
        if type(pair) is not tuple or len(pair) != 2:
            return False
        if not plainly.bits(pair[0], len(one[1])) or not plainly.bits(pair[1], len(other[1])):
            return False
    if any(a >= b for a, b in zip(thing, thing[1:])) or at_first(one, other) not in thing:
        return False
    return all(held_fit(one, other, *pair) and all(near in thing for near in held_next(one, other, *pair)) for pair in thing)


def signals(thing):
    return type(thing) is tuple and 1 <= len(thing) <= 3 and all(map(plainwords.signal, thing)) and all(
        a < b for a, b in zip(thing, thing[1:]))


def far_exit(thing, traps=0):
    """Whether an exit leads further than to the two nearest traps around."""
    if thing[0] == "exit":
        return thing[1] - traps > 1
    return any(far_exit(kid, traps + (thing[0] == "trap")) for _, kid in plainwords.kids(thing))


def piece(thing):
    if type(thing) is not tuple or len(thing) != 2 or not signals(thing[0]) or not plainwords.judged(thing[1], False, 40, 15):
        return False
    return plainwords.free(thing[1]) <= set(thing[0]) and not far_exit(thing[1])


def standing(names, thing):
    return plainwords.rest(thing) and plainwords.free(thing) <= set(names) and not far_exit(thing)


def known(names, now, run, given):
    """The readings of the signals and of the locals, step by step."""
    found = {key: None for key in list(names) + plainwords.locals_of(now)}
    worth = dict(zip(names, given))
    while True:
        emits = plainwords.must(now, found)[0] if run == 1 else set()
        cans = plainwords.can(now, found)[0]
        fresh = {}
        for key in found:
            if found[key] is None and (key in emits or worth.get(key) == 1):
                fresh[key] = 1
            elif found[key] is None and key not in cans and worth.get(key, 0) == 0:
                fresh[key] = 0
        if not fresh:
            return found
        found[sorted(fresh, key=repr)[0]] = fresh[sorted(fresh, key=repr)[0]]


def piece_reading(names, now, run, given):
    found = known(names, now, run, given)
    code = plainwords.must(now, found)[1] if run == 1 else None
    codes = plainwords.can(now, found)[1]
    told = tuple(1 if code == place else None if place in codes else 0 for place in range(4))
    return tuple(found[name] for name in names), told


def piece_settled(names, now, given):
    found = known(names, now, 1, given)
    running = plainwords.runs(now, found)
    if any(found[name] is None for name in names) or any(found[path] is None for path in plainwords.locals_of(now) if path in running):
        return None
    code = plainwords.must(now, found)[1]
    return tuple(found[name] for name in names), code, plainwords.remains(now, found) if code == 1 else None


class Doing:
    """What standings do, kept by their texts."""

    def __init__(self, names):
        self.names = names
        self.kept = {}

    def of(self, now):
        """What counts for others, and the list of the rests behind bits."""
        if repr(now) not in self.kept:
            bits = {row: piece_settled(self.names, now, row) for row in plainly.all_bits(len(self.names))}
            good = [row for row in bits if bits[row] is not None]
            every = plainly.all_readings(len(self.names))
            told = [piece_reading(self.names, now, 1, row) for row in every if completed_by(row, good)]
            unrun = [piece_reading(self.names, now, None, row) for row in every]
            shown = [row and row[:2] for row in bits.values()], told, unrun
            self.kept[repr(now)] = shown, [row[2] for row in bits.values() if row is not None and row[1] == 1]
        return self.kept[repr(now)]


def met_pairs(one, other):
    """The pairs of standings that are met, and whether all of them fit; None instead of the pairs if not."""
    doing = Doing(one[0])
    found = [(one[1], other[1])]
    for left, right in found:
        if doing.of(left)[0] != doing.of(right)[0]:
            return None
        found += [pair for pair in dict.fromkeys(zip(doing.of(left)[1], doing.of(right)[1])) if pair not in found]
    return found


def is_pieces_pairing(one, other, thing):
    if type(thing) not in (list, tuple):
        return False
    for pair in thing:
        if type(pair) is not tuple or len(pair) != 2 or not all(standing(one[0], now) for now in pair):
            return False
    if any(a == b for a, b in itertools.combinations(thing, 2)) or (one[1], other[1]) not in thing:
        return False
    doing = Doing(one[0])
    return all(doing.of(left)[0] == doing.of(right)[0] and all(pair in thing for pair in zip(doing.of(left)[1], doing.of(right)[1]))
               for left, right in thing)


def classes(thing):
    """The lots of standings that do alike, by all pairs of them."""
    doing = Doing(thing[0])
    found = [thing[1]]
    for now in found:
        found += [near for near in dict.fromkeys(doing.of(now)[1]) if near not in found]
    alike = {(a, b) for a in range(len(found)) for b in range(len(found)) if doing.of(found[a])[0] == doing.of(found[b])[0]}
    while True:
        less = {(a, b) for a, b in alike if all((found.index(x), found.index(y)) in alike
                                                for x, y in zip(doing.of(found[a])[1], doing.of(found[b])[1]))}
        if less == alike:
            break
        alike = less
    told = []
    for at, now in enumerate(found):
        if not any((at, before) in alike for before in range(at)):
            told.append(tuple(found[other] for other in range(len(found)) if (at, other) in alike))
    return told


def holes(thing, traps=0, form=()):
    """The list of how many traps stand around each hole; No if it is no surroundings."""
    if thing == ("hole",):
        return [traps]
    if type(thing) is not tuple or not thing:
        return []
    found = []
    for kid in thing[1:]:
        if type(kid) is tuple:
            found += holes(kid, traps + (thing[0] == "trap"))
    return found


def filled(thing, body):
    """The same with body in the place of each hole."""
    if thing == ("hole",):
        return body
    return tuple(filled(kid, body) for kid in thing) if type(thing) is tuple else thing


def surroundings(thing):
    if type(thing) is not tuple or not plainwords.statement(filled(thing, ("pause",))):
        return False
    around = holes(thing)
    return bool(around) and min(around) >= 2
