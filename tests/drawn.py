"""Circuits drawn by number, the same each time, and small ones by hand."""

import random

OR = (0, 1, 1, 1)
AND = (0, 0, 0, 1)
UNLIKE = (0, 1, 1, 0)
NOT = (1, 0)
SAME = (0, 1)

# The and of the input and itself (point 13), told as output.
SELF_AND = (1, (), (((("in", 0), ("gate", 0)), AND),), (("gate", 0),))
# The one of point 13 with one solution and no sure gate.
ONE_SOLUTION = (0, (), (((("gate", 0), ("gate", 1)), (1, 1, 0, 1)), ((("gate", 0), ("gate", 1)), (1, 1, 0, 1))), ())
# The one of point 20: a gate that reads itself twice.
TWICE = (0, (), (((("gate", 0), ("gate", 0)), (0, 1, 0, 0)),), ())
# Those of point 23.
EVEN_FIRST = (1, (), (((("gate", 0), ("in", 0)), OR), ((("gate", 0), ("gate", 2)), UNLIKE), ((("gate", 1),), NOT)), ())
ODD_RING = (1, (), (((("in", 0),), SAME), ((("gate", 0), ("gate", 2)), UNLIKE), ((("gate", 1),), NOT)), ())
# A rest at 0 or 1, and a gate that asks whether its two branches from it are unlike (point 21).
UNLIKE_BRANCHES = (0, (), (((("gate", 0),), SAME), ((("gate", 0), ("gate", 0)), UNLIKE)), ())
# Two registers that count, with a gate of no sources, of four, and a source named twice.
COUNTER = (2, ((0, ("gate", 0)), (1, ("gate", 1))),
           (((("reg", 0), ("in", 0)), UNLIKE),
            ((("reg", 1), ("reg", 0), ("in", 0), ("in", 1)), (0, 1, 1, 0, 1, 0, 0, 1, 0, 1, 1, 0, 1, 0, 0, 1)),
            ((), (1,)),
            ((("gate", 2), ("gate", 2)), AND)),
           (("gate", 0), ("gate", 1), ("gate", 3), ("in", 1), ("reg", 1), ("bit", 1)))
EMPTY = (0, (), (), ())
# A gate that only raises itself, with a follower.
RAISES = (1, (), (((("gate", 0), ("in", 0)), OR), ((("gate", 0),), NOT)), (("gate", 1),))
# Rings that stand behind one another, with bits held by registers.
HELD_RING = (1, ((1, ("in", 0)), (0, ("gate", 1))),
             (((("gate", 1), ("reg", 0)), AND), ((("gate", 0), ("in", 0)), OR), ((("gate", 1), ("reg", 1)), UNLIKE)),
             (("gate", 2), ("reg", 0)))

BY_HAND = [SELF_AND, ONE_SOLUTION, TWICE, EVEN_FIRST, ODD_RING, UNLIKE_BRANCHES, COUNTER, EMPTY, RAISES, HELD_RING]


def circuit(seed, most_gates=4, most_sources=3, most_registers=2, most_inputs=2):
    """A circuit of at most so many gates."""
    rng = random.Random(seed)
    inputs = rng.randint(0, most_inputs)
    registers = rng.randint(0, most_registers)
    gates = rng.randint(0, most_gates)

    def source():
        kinds = ["bit"] + ["in"] * (2 if inputs else 0) + ["reg"] * (1 if registers else 0) + ["gate"] * (6 if gates else 0)
        kind = rng.choice(kinds)
        return kind, rng.randrange({"bit": 2, "in": inputs, "reg": registers, "gate": gates}[kind])

    rows = []
    for _ in range(gates):
        many = rng.randint(0 if rng.random() < 0.2 else 1, most_sources)
        table = tuple(rng.randint(0, 1) for _ in range(2 ** many))
        if rng.random() < 0.4 and many:
            table = rng.choice([(0,) + (1,) * (2 ** many - 1), (0,) * (2 ** many - 1) + (1,)])
        rows.append((tuple(source() for _ in range(many)), table))
    regs = tuple((rng.randint(0, 1), source()) for _ in range(registers))
    outputs = tuple(source() for _ in range(rng.randint(0, 3)))
    return (inputs, regs, tuple(rows), outputs)


def lots_of(many, **sizes):
    """So many drawn circuits."""
    return [circuit(seed, **sizes) for seed in range(many)]


def wires(many):
    """A row of gates, each of which follows the one ahead, the first one a gate of no sources."""
    return tuple([((), (1,))] + [((("gate", at),), SAME) for at in range(many - 1)])


def ring(many, turns):
    """A ring of gates, so many of which turn."""
    return tuple(((("gate", at - 1 if at else many - 1),), NOT if at < turns else SAME) for at in range(many))
