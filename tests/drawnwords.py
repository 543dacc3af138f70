"""Statements drawn by number, the same each time, and small ones by hand."""

import random

from tests import plainwords

NOTHING, PAUSE = ("nothing",), ("pause",)
HAND_BODY = ("local", "s", ("par", ("if", "s", ("emit", "o"), NOTHING), ("if", "a", ("emit", "s"), PAUSE)))
HAND = (("a",), ("o",), HAND_BODY)
TWO_LOCALS = ("local", "s", ("par", ("emit", "s"), ("local", "s", ("if", "s", ("emit", "o"), PAUSE))))
UNSURE = ((), ("o",), ("if", "o", ("emit", "o"), NOTHING))
NO_WAY = ((), ("o",), ("if", "o", NOTHING, ("emit", "o")))


def draw(rng, parts, names, holds=True, loops=True, exits=3):
    """A statement of about so many parts."""
    if parts <= 1:
        kind = rng.choice(["nothing", "pause", "pause", "emit", "emit", "emit", "exit"])
        if kind == "emit" and names:
            return ("emit", rng.choice(names))
        if kind == "exit":
            return ("exit", rng.randint(0, exits)) if exits >= 0 else PAUSE
        return PAUSE if kind == "pause" else NOTHING
    kinds = ["seq", "seq", "par", "par", "trap", "local"] + ["loop"] * loops
    if names:
        kinds += ["if", "if", "if", "suspend"] + ["hold"] * holds
    kind = rng.choice(kinds)
    split = rng.randint(1, max(1, parts - 2))

    def more(many, inner=names, out=exits):
        return draw(rng, many, inner, holds, loops, out)

    if kind in ("seq", "par"):
        return (kind, more(split), more(parts - 1 - split))
    if kind == "if":
        return (kind, rng.choice(names), more(split), more(parts - 1 - split))
    if kind in ("suspend", "hold"):
        return (kind, rng.choice(names), more(parts - 1))
    if kind == "loop":
        body = more(parts - 1)
        return ("loop", body if 0 not in plainwords.codes(body) else ("seq", body, PAUSE))
    if kind == "trap":
        return ("trap", more(parts - 1, out=min(exits + 1, 3) if exits >= 0 else 0))
    name = rng.choice(("s", "t") + tuple(names))
    return ("local", name, more(parts - 1, tuple(names) + (name,)))


def statements(many, most=14, names=("a", "b", "o"), holds=True, exits=3, start=0):
    """So many drawn statements, rest statements if holds."""
    found = []
    for seed in range(start, start + many):
        rng = random.Random(seed)
        found.append(draw(rng, rng.randint(1, most), names, holds, exits=exits))
    return found


def programs(many, most=14, start=0):
    """So many drawn programs of inputs a, b and outputs o, p."""
    found = []
    for seed in range(start, start + many):
        rng = random.Random(seed)
        names = ("a", "b", "o", "p")
        found.append((("a", "b"), ("o", "p"), draw(rng, rng.randint(1, most), names, False, exits=-1)))
    return found


def chain(many, inner=PAUSE):
    """So many statements, each directly in the one ahead."""
    for _ in range(many - 1):
        inner = ("trap", inner)
    return inner


def broad(many):
    """A statement of so many, in few levels."""
    rows = [PAUSE] * (many // 2 + 1)
    while len(rows) > 1:
        rows = [("par", rows[at], rows[at + 1]) if at + 1 < len(rows) else rows[at] for at in range(0, len(rows), 2)]
    return rows[0] if many % 2 else ("trap", broad(many - 1))
