"""Programs drawn by number whose states go round, and great ones by hand."""

import random

from restsure.statements import is_program
from tests import drawnwords, plainwords
from tests.drawnwords import NOTHING, PAUSE

NAMES = ("a", "b", "o", "p")


def in_row(*parts):
    """The statements one behind the other."""
    told = parts[-1]
    for part in reversed(parts[:-1]):
        told = ("seq", part, told)
    return told


def long_row(*parts):
    """The statements one behind the other, in few levels."""
    if len(parts) == 1:
        return parts[0]
    half = len(parts) // 2
    return ("seq", long_row(*parts[:half]), long_row(*parts[half:]))


def beside(*parts):
    """The statements side by side."""
    told = parts[-1]
    for part in reversed(parts[:-1]):
        told = ("par", part, told)
    return told


def traps(many, body):
    for _ in range(many):
        body = ("trap", body)
    return body


def locals_around(names, body):
    for name in names:
        body = ("local", name, body)
    return body


def looped(body):
    """body in a loop, with a pause behind it where it may end at once."""
    return ("loop", body if 0 not in plainwords.codes(body) else ("seq", body, PAUSE))


def whirl(seed, names=NAMES):
    """A body with loops that end and begin anew in one instant, locals, traps and suspends within."""
    rng = random.Random(seed)

    def part(most, exits=-1, more=()):
        return drawnwords.draw(rng, rng.randint(1, most), names + more, False, exits=exits)

    shape = seed % 6
    if shape == 0:
        return looped(("local", "s", beside(("seq", PAUSE, part(4, -1, ("s",))), part(5, -1, ("s",)))))
    if shape == 1:
        return looped(("trap", beside(part(5, 0), ("seq", PAUSE, part(4, 0)), looped(part(3, 0)))))
    if shape == 2:
        return ("suspend", rng.choice(names), looped(("trap", ("par", part(4, 0), looped(part(4, 0))))))
    if shape == 3:
        inner = ("par", part(5, 1), ("trap", ("par", part(4, 2), ("suspend", rng.choice(names), part(4, 2)))))
        return traps(2, looped(("seq", inner, part(3, 1))))
    if shape == 4:
        inner = looped(("local", "s", in_row(part(3, 0, ("s",)), ("if", "s", PAUSE, NOTHING), part(3, 0, ("s",)))))
        return looped(("trap", ("par", inner, ("seq", PAUSE, ("exit", 0)))))
    return traps(1, ("par", looped(part(6, 0)), looped(("suspend", rng.choice(names), part(6, 0)))))


def whirls(many, start=0):
    """So many programs of such bodies."""
    found = [(("a", "b"), ("o", "p"), whirl(seed)) for seed in range(start, start + many)]
    assert all(is_program(prog) for prog in found)
    return found


def small_inputs(many, start=0):
    """Drawn programs, most of them sure, of 0 to 2 inputs and outputs."""
    found = []
    for seed in range(start, start + many):
        rng = random.Random(seed)
        inputs, outputs = ("a", "b")[:seed % 3], ("o", "p")[:1 + seed // 3 % 2]
        if seed % 4 == 3:
            body = automaton(rng, inputs, outputs, rng.randint(1, 3))
        else:
            body = drawnwords.draw(rng, rng.randint(3, 16), inputs + outputs, False, exits=-1)
        found.append((inputs, outputs, body))
    return found


def automaton(rng, inputs, outputs, many):
    """A sure body that goes round so many states, as a trap around locals."""
    def leaf(names):
        if names:
            return ("if", names[0], leaf(names[1:]), leaf(names[1:]))
        emits = [("emit", name) for name in outputs if rng.random() < 0.4]
        if rng.random() < 0.15:
            return in_row(*emits, ("exit", 0))
        return in_row(*emits, PAUSE, ("emit", "s" + "abc"[rng.randrange(many)]))

    loops = [("loop", ("if", "s" + name, leaf(inputs), PAUSE)) for name in "abc"[:many]]
    return ("trap", locals_around(["s" + name for name in "abc"[:many]], beside(("emit", "sa"), *loops)))


def clock(lead, *turns):
    """A body of no inputs: so many pauses, then loops of so many pauses side by side."""
    rounds = beside(*[("loop", in_row(*[PAUSE] * many)) for many in turns])
    return in_row(*[PAUSE] * lead, rounds)


def clock_states(lead, *turns):
    """How many states it reaches."""
    from math import lcm
    return 1 + lead + lcm(*turns)


def toggles(inputs, outputs):
    """A body that goes on to the other side of each output at each input."""
    def waits(name):
        return ("trap", ("loop", ("seq", PAUSE, ("if", name, ("exit", 0), NOTHING))))
    return beside(*[("loop", in_row(waits(a), ("emit", o), waits(a))) for a, o in zip(inputs, outputs)])
