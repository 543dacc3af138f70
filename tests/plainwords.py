"""The document's words on statements once more, as plainly as can be, to compare with."""

import itertools
import re

FORMS = {"nothing": (), "pause": (), "emit": "s", "if": "spp", "seq": "pp", "par": "pp", "loop": "p",
         "suspend": "sp", "trap": "p", "exit": "k", "local": "sp", "hold": "sp"}


class No(Exception):
    """Not a statement."""


def signal(thing):
    return type(thing) is str and re.fullmatch("[a-z]{1,8}", thing) is not None and thing.isascii()


def size(thing, levels, holds):
    """How many statements stand in it; No unless it is built as one of at most so many levels."""
    if levels == 0 or type(thing) is not tuple or not thing or type(thing[0]) is not str or thing[0] not in FORMS:
        raise No
    if (thing[0] == "hold" and not holds) or len(thing) != len(FORMS[thing[0]]) + 1:
        raise No
    many = 1
    for sign, item in zip(FORMS[thing[0]], thing[1:]):
        if sign == "s" and not signal(item):
            raise No
        if sign == "k" and (type(item) is not int or not 0 <= item <= 20):
            raise No
        if sign == "p":
            many += size(item, levels - 1, holds)
    return many


def kids(rest):
    """The pairs (index, statement) of what stands directly in it."""
    return [(at + 1, rest[at + 1]) for at, sign in enumerate(FORMS[rest[0]]) if sign == "p"]


def freed(code):
    return {0: 0, 1: 1, 2: 0}.get(code, code - 1)


def codes(rest):
    """Its plain codes; No if a loop may end at once."""
    within = [codes(kid) for _, kid in kids(rest)]
    kind = rest[0]
    if kind in ("nothing", "emit"):
        return {0}
    if kind == "pause":
        return {1}
    if kind == "exit":
        return {rest[1] + 2}
    if kind == "if":
        return within[0] | within[1]
    if kind == "seq":
        return (within[0] - {0}) | (within[1] if 0 in within[0] else set())
    if kind == "par":
        return {max(a, b) for a in within[0] for b in within[1]}
    if kind == "loop":
        if 0 in within[0]:
            raise No
        return within[0]
    if kind == "hold":
        return within[0] | {1}
    if kind == "trap":
        return {freed(code) for code in within[0]}
    return within[0]


def judged(thing, holds, most, levels):
    try:
        if size(thing, levels, holds) > most:
            return False
        codes(thing)
        return True
    except No:
        return False


def statement(thing):
    return judged(thing, False, 200, 40)


def rest(thing):
    return judged(thing, True, 2000, 80)


def free(thing, bound=()):
    found = set()
    if thing[0] in ("emit", "if", "suspend", "hold") and thing[1] not in bound:
        found.add(thing[1])
    if thing[0] == "local":
        bound = bound + (thing[1],)
    for _, kid in kids(thing):
        found |= free(kid, bound)
    return found


def paths(thing, here=()):
    found = [here]
    for index, kid in kids(thing):
        found += paths(kid, here + (index,))
    return found


def at(thing, path):
    for index in path:
        thing = thing[index]
    return thing


def leads_out(thing, traps=0):
    """Whether an exit in it leads out."""
    if thing[0] == "exit":
        return thing[1] >= traps
    return any(leads_out(kid, traps + (thing[0] == "trap")) for _, kid in kids(thing))


def raised(thing, many, traps=0):
    if thing[0] == "exit":
        return ("exit", thing[1] + many) if thing[1] >= traps else thing
    row = list(thing)
    for index, kid in kids(thing):
        row[index] = raised(kid, many, traps + (thing[0] == "trap"))
    return tuple(row)


def renamed(thing, path, name, old=None):
    """path None: within the local, old is renamed."""
    row = list(thing)
    if path == ():
        row[1], old, name_to = name, thing[1], name
        row[2] = renamed(thing[2], None, name_to, old)
        return tuple(row)
    if path is None:
        if thing[0] == "local" and thing[1] == old:
            return thing
        if thing[0] in ("emit", "if", "suspend", "hold") and thing[1] == old:
            row[1] = name
        for index, kid in kids(thing):
            row[index] = renamed(kid, None, name, old)
        return tuple(row)
    row[path[0]] = renamed(thing[path[0]], path[1:], name)
    return tuple(row)


def program(thing):
    if type(thing) is not tuple or len(thing) != 3:
        return False
    for names in thing[:2]:
        if type(names) is not tuple or len(names) > 8 or not all(signal(x) for x in names):
            return False
    names = thing[0] + thing[1]
    return len(set(names)) == len(names) and statement(thing[2]) and fits(names, thing[2])


def fits(names, thing):
    return free(thing) <= set(names) and not leads_out(thing)


def state(prog, thing):
    return thing is None or (rest(thing) and fits(prog[0] + prog[1], thing))


def must(thing, readings, here=(), scope=None):
    """The pair of a set of keys and the code."""
    scope = scope or {}
    kind = thing[0]
    if kind == "emit":
        return {scope.get(thing[1], thing[1])}, 0
    if kind in ("nothing", "pause", "exit"):
        return set(), {"nothing": 0, "pause": 1}.get(kind, thing[-1] + 2 if kind == "exit" else 0)
    if kind == "if":
        known = readings[scope.get(thing[1], thing[1])]
        if known is None:
            return set(), None
        return must(thing[2 if known else 3], readings, here + ((2 if known else 3),), scope)
    if kind == "seq":
        one, code = must(thing[1], readings, here + (1,), scope)
        if code != 0:
            return one, code
        two, code = must(thing[2], readings, here + (2,), scope)
        return one | two, code
    if kind == "par":
        one, low = must(thing[1], readings, here + (1,), scope)
        two, high = must(thing[2], readings, here + (2,), scope)
        return one | two, None if low is None or high is None else max(low, high)
    if kind == "loop":
        return must(thing[1], readings, here + (1,), scope)
    if kind == "suspend":
        return must(thing[2], readings, here + (2,), scope)
    if kind == "hold":
        known = readings[scope.get(thing[1], thing[1])]
        if known == 0:
            return must(thing[2], readings, here + (2,), scope)
        return set(), 1 if known == 1 else None
    if kind == "trap":
        one, code = must(thing[1], readings, here + (1,), scope)
        return one, None if code is None else freed(code)
    return must(thing[2], readings, here + (2,), {**scope, thing[1]: here})


def can(thing, readings, here=(), scope=None):
    """The pair of sets of keys and codes."""
    scope = scope or {}
    kind = thing[0]
    if kind in ("emit", "nothing", "pause", "exit"):
        keys, code = must(thing, readings, here, scope)
        return keys, {code}
    if kind == "if":
        known = readings[scope.get(thing[1], thing[1])]
        ways = [can(thing[at], readings, here + (at,), scope) for at in ((2, 3) if known is None else (2,) if known else (3,))]
        return set().union(*[way[0] for way in ways]), set().union(*[way[1] for way in ways])
    if kind == "seq":
        one, first = can(thing[1], readings, here + (1,), scope)
        if 0 not in first:
            return one, first
        two, second = can(thing[2], readings, here + (2,), scope)
        return one | two, (first - {0}) | second
    if kind == "par":
        one, first = can(thing[1], readings, here + (1,), scope)
        two, second = can(thing[2], readings, here + (2,), scope)
        return one | two, {max(a, b) for a in first for b in second}
    if kind == "loop":
        return can(thing[1], readings, here + (1,), scope)
    if kind == "suspend":
        return can(thing[2], readings, here + (2,), scope)
    if kind == "hold":
        known = readings[scope.get(thing[1], thing[1])]
        if known == 1:
            return set(), {1}
        keys, within = can(thing[2], readings, here + (2,), scope)
        return keys, within | ({1} if known is None else set())
    if kind == "trap":
        keys, within = can(thing[1], readings, here + (1,), scope)
        return keys, {freed(code) for code in within}
    return can(thing[2], readings, here + (2,), {**scope, thing[1]: here})


def runs(thing, readings, here=(), scope=None):
    """The list of the paths of what is run, if it is."""
    scope = scope or {}
    kind = thing[0]
    found = [here]
    if kind in ("if", "hold"):
        known = readings[scope.get(thing[1], thing[1])]
        go = {("if", 1): (2,), ("if", 0): (3,), ("hold", 0): (2,)}.get((kind, known), ())
    elif kind == "seq":
        go = (1, 2) if must(thing[1], readings, here + (1,), scope)[1] == 0 else (1,)
    else:
        go = tuple(index for index, _ in kids(thing))
    if kind == "local":
        scope = {**scope, thing[1]: here}
    for index in go:
        found += runs(thing[index], readings, here + (index,), scope)
    return found


def ordered(keys):
    """Names ascending, behind them paths ascending."""
    return sorted(x for x in keys if type(x) is str) + sorted(x for x in keys if type(x) is tuple)


def locals_of(thing):
    return [path for path in paths(thing) if at(thing, path)[0] == "local"]


def keys_of(thing):
    return sorted(free(thing)) + locals_of(thing)


def begun(prog, now, given):
    """The readings at the beginning."""
    now = ("nothing",) if now is None else now
    known = {key: None for key in sorted(prog[0] + prog[1]) + locals_of(now)}
    for name, bit in zip(prog[0], given):
        if bit:
            known[name] = 1
    return now, known


def may(now, known):
    """The steps that may be told."""
    emits, _ = must(now, known)
    cans, _ = can(now, known)
    none = [key for key, reading in known.items() if reading is None]
    return [(key, 1) for key in none if key in emits] + [(key, 0) for key in none if key not in cans]


def known_at(prog, now, given, choose=lambda row: row[0]):
    now, known = begun(prog, now, given)
    steps = []
    while True:
        row = may(now, known)
        if not row:
            return known, tuple(steps)
        step = choose(row)
        known[step[0]] = step[1]
        steps.append(step)


def all_told(prog, now, known):
    now = ("nothing",) if now is None else now
    going = runs(now, known)
    return all(known[name] is not None for name in prog[0] + prog[1]) and all(
        known[path] is not None for path in locals_of(now) if path in going)


def remains(thing, known, here=(), scope=None):
    """The rest of what is run and pauses."""
    scope = scope or {}
    kind = thing[0]

    def code(index):
        return must(thing[index], known, here + (index,), scope)[1]

    def go(index, more=None):
        return remains(thing[index], known, here + (index,), more or scope)

    if kind == "pause":
        return ("nothing",)
    if kind == "if":
        return go(2 if known[scope.get(thing[1], thing[1])] else 3)
    if kind == "seq":
        return ("seq", go(1), thing[2]) if code(1) == 1 else go(2)
    if kind == "par":
        if code(1) == 1 and code(2) == 1:
            return ("par", go(1), go(2))
        return go(1) if code(1) == 1 else go(2)
    if kind == "loop":
        return ("seq", go(1), thing)
    if kind == "suspend":
        return ("hold", thing[1], go(2))
    if kind == "hold":
        return thing if known[scope.get(thing[1], thing[1])] == 1 else ("hold", thing[1], go(2))
    if kind == "trap":
        return ("trap", go(1))
    return ("local", thing[1], go(2, {**scope, thing[1]: here}))


def react(prog, now, given):
    known, _ = known_at(prog, now, given)
    if not all_told(prog, now, known):
        return None
    body = ("nothing",) if now is None else now
    _, code = must(body, known)
    totals = tuple(known[name] for name in prog[0] + prog[1])
    return totals, code, remains(body, known) if code == 1 else None


def is_shown_sure(prog, now, given, thing):
    if type(thing) is not tuple or len(thing) != 2 or thing[0] not in ("sure", "unsure") or type(thing[1]) is not tuple:
        return False
    body, known = begun(prog, now, given)
    for step in thing[1]:
        if repr(step) not in [repr(x) for x in may(body, known)]:
            return False
        known[step[0]] = step[1]
    if thing[0] == "sure":
        return all_told(prog, now, known)
    return not all_told(prog, now, known) and not may(body, known)


def ways(prog, now, given):
    """All dicts that agree, by trying all of them."""
    body, known = begun(prog, now, given)
    keys = list(known)
    inputs = {name for name, bit in zip(prog[0], given) if bit}
    found = []
    for row in itertools.product((0, 1, None), repeat=len(keys)):
        way = dict(zip(keys, row))
        if any(way[name] is None for name in prog[0] + prog[1]):
            continue
        try:
            going = runs(body, way)
        except KeyError:
            continue
        if any((way[path] is None) != (path not in going) for path in locals_of(body)):
            continue
        emits, _ = must(body, way)
        if {key for key in keys if way[key] == 1} == emits | inputs:
            found.append(way)
    return found
