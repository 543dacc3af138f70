"""Values of every kind, and values with one thing otherwise."""

from restsure.errors import BadCircuit, TooMany

NUMBERS = [0, 1, 2, 3, -1, 8, 9, 61, 999999999, -999999999]
PLAIN = NUMBERS + [True, False, None, "", "a", "A", "in", "gate", "branch", "yes", "no", "sure",
                   "pause", "nothing", "emit", "seq", "abcdefgh", "abcdefghi", "0", " "]
OBJECTS = [BadCircuit("a"), TooMany(3)]


def deep(value, levels, wrap):
    """value within so many others."""
    for _ in range(levels):
        value = wrap(value)
    return value


def every_kind():
    """A list of values of every kind."""
    found = list(PLAIN)
    for item in [0, 1, True, None, "a", "gate", "pause", ("in", 0), ("gate", 0), ("gate", True)]:
        found += [[item], (item,), {"a": item}, {0: item}, [item, item], (item, item), (item, item, item)]
        found += [(item, item, item, item), [[item]], ((item,),), [(item,)], ([item],), {"a": {"b": (item,)}}]
    found += [[], (), {}, ((),), ([],), [()], [[]], ((), ()), ((), (), ()), ((), (), (), ()), {(): 0}, {True: 1}]
    found += [(0, (), (), []), [0, (), (), ()], (0, (), (), ()), (0, [], (), ()), (0, (), [], ())]
    found += [("nothing",), ["nothing"], ("exit", True), ("exit", 21), ("exit", -1), ("emit", "A"), ("loop", ("nothing",))]
    found += [("yes", 0), ("yes", True), ("no", ((0,), "rests", ((0,), (1,)))), ("sure", ()), ("unsure", ())]
    found += [deep(0, 250, lambda x: (x,)), deep((), 249, lambda x: [x]), deep("a", 240, lambda x: {"a": x})]
    found += [deep(("pause",), 245, lambda x: ("trap", x))]
    return found + OBJECTS


def other_leaves(leaf):
    """Values near a number, a string or None."""
    if leaf is None:
        return [0, 1, False, "None", ()]
    if isinstance(leaf, bool):
        return [int(leaf), None]
    if isinstance(leaf, int):
        found = [None, str(leaf), (leaf,), [leaf], leaf + 1, leaf - 1, -1, leaf + 100000, 1 - leaf]
        return found + ([bool(leaf)] if leaf in (0, 1) else [True, False])
    if isinstance(leaf, str):
        return [leaf + "x", leaf[:-1], leaf.upper(), None, 0, True, (leaf,), [leaf], "gate", "in", "bit", "reg", "local", "pause"]
    return [None, 0]


def changed(value):
    """All values that come of value by one change at one place, at every depth."""
    if isinstance(value, dict):
        for key in value:
            yield {k: v for k, v in value.items() if k != key}
            for item in changed(value[key]):
                yield {k: (item if k == key else v) for k, v in value.items()}
            for other in changed(key):
                if not holds_unhashable(other):
                    yield {(other if k == key else k): v for k, v in value.items()}
        yield {**value, "zz": 0}
        yield list(value.items())
        return
    if isinstance(value, (list, tuple)):
        kind = type(value)
        yield list(value) if kind is tuple else tuple(value)
        yield value + kind((None,))
        yield value + kind((0,))
        yield value + value[-1:]
        yield value[:-1]
        yield value[1:]
        yield value[::-1]
        yield None
        yield {key: item for key, item in enumerate(value)}
        for at, item in enumerate(value):
            for other in changed(item):
                yield value[:at] + kind((other,)) + value[at + 1:]
        return
    yield from other_leaves(value)


def holds_unhashable(value):
    """Whether value may not be a key."""
    if isinstance(value, (list, dict)):
        return True
    return isinstance(value, tuple) and any(holds_unhashable(item) for item in value)


def with_lists(value, depth):
    """value with its tuple, or those in it down to depth, as lists."""
    if isinstance(value, tuple) and depth >= 0:
        return [with_lists(item, depth - 1) for item in value]
    return value
