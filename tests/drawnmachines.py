"""Machines drawn by number, the same each time, and small ones by hand."""

import random

from tests import plainly

# One input, one output: it counts to two, then tells; one state; two states that do the same; one that ends.
COUNTS = (1, 1, ((((0, 0), 1), ((1, 0), 0)), (((0, 0), 2), ((1, 0), 1)), (((0, 1), 0), ((1, 0), 2))))
ONE_STATE = (0, 1, ((((1,), 0),),))
TWICE = (1, 1, ((((0, 1), 0), ((1, 1), 0)), (((0, 1), 1), ((1, 1), 0))))
ENDS = (1, 1, ((((0, 0), 0), ((1, 1), None)),))


def machine(seed, inputs, outputs, many, plain=False):
    """A machine of so many states, of which not all need be found."""
    rng = random.Random(seed)
    kinds = [tuple(rng.randint(0, 1) for _ in range(outputs)) for _ in range(2)]
    states = []
    for _ in range(many):
        pairs = []
        for given in plainly.all_bits(inputs):
            told = given if plain or rng.random() < 0.8 else tuple(bit | rng.randint(0, 1) for bit in given)
            following = None if rng.random() < 0.1 else rng.randrange(many)
            pairs.append((told + rng.choice(kinds), following))
        states.append(tuple(pairs))
        if rng.random() < 0.4:
            states[-1] = rng.choice(states)
    return inputs, outputs, tuple(states)


def machines(many, plain=False, start=0):
    """So many drawn machines of up to 2 inputs, 2 outputs and 7 states."""
    return [machine(seed, seed % 3, seed // 3 % 3, 1 + seed // 9 % 7, plain) for seed in range(start, start + many)] + [
        COUNTS, ONE_STATE, TWICE, ENDS]
