"""Pieces drawn by number, and some near them."""

import random

from tests import drawnwords, plainparts
from tests.drawnwords import NOTHING, PAUSE

# Point 76: a local that emits itself, and ifs with two exits.
EMITS_ITSELF = ("local", "x", ("seq", ("emit", "x"), ("if", "x", NOTHING, ("emit", "s"))))
GOES_OUT = ("if", "x", ("exit", 1), ("exit", 1))
MAY_PAUSE = ("if", "x", ("exit", 1), ("if", "x", PAUSE, ("exit", 1)))
NAMES = ("a", "b", "c", "d", "s", "x")


def draw_body(rng, names, most=10):
    """A body of a piece."""
    while True:
        body = drawnwords.draw(rng, rng.randint(1, most), names, False, exits=1)
        if plainparts.piece((names, body)):
            return body


def draw_names(rng, most=3):
    return tuple(sorted(rng.sample(NAMES, rng.randint(1, most))))


def pieces(many, start=0, most=10):
    """So many drawn pieces."""
    found = []
    for seed in range(start, start + many):
        rng = random.Random(seed)
        names = draw_names(rng)
        found.append((names, draw_body(rng, names, most)))
    return found


def standings(many, start=0, most=10):
    """So many pairs of signals and of a drawn standing of them, holds among them."""
    found = []
    for seed in range(start, start + many):
        rng = random.Random(seed)
        names = draw_names(rng)
        while True:
            rest = drawnwords.draw(rng, rng.randint(1, most), names, True, exits=1)
            if plainparts.standing(names, rest):
                found.append((names, rest))
                break
    return found


def pairs(many, start=0):
    """So many pairs of pieces of the same signals, many of them near one another."""
    found = []
    seed = start
    while len(found) < many:
        seed += 1
        rng = random.Random(seed)
        names = draw_names(rng, 2 + seed % 2)
        one = draw_body(rng, names, 8)
        one, other = near(rng, names, one)
        if plainparts.piece((names, one)) and plainparts.piece((names, other)):
            found.append(((names, one), (names, other)))
    return found


def near(rng, names, body):
    """Two bodies near one another, perhaps behind pauses."""
    x = rng.choice(names)
    way = rng.randrange(12)
    other = {0: ("seq", body, NOTHING), 1: ("if", x, body, body), 2: ("par", body, body), 3: ("suspend", x, body),
             4: ("local", "zz", ("seq", ("emit", "zz"), ("if", "zz", body, ("emit", x)))),
             5: ("if", x, body, ("if", x, draw_body(rng, names, 3), body)), 6: draw_body(rng, names, 6),
             7: ("par", draw_body(rng, names, 3), body), 8: ("trap", ("par", body, ("exit", 0))), 9: ("seq", NOTHING, body),
             10: ("local", "zz", ("seq", ("emit", "zz"), ("if", "zz", body, draw_body(rng, names, 3)))),
             11: ("suspend", x, ("suspend", x, body))}[way]
    if way == 11:
        body = ("suspend", x, body)
    for _ in range(rng.choice((0, 0, 1, 1, 2))):
        body, other = ("seq", PAUSE, body), ("seq", PAUSE, other)
    return body, other
