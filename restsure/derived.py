"""Statements that are made of others: waiting, breaking off, beginning anew."""

from restsure.errors import BadSignal
from restsure.kinds import is_signal
from restsure.statements import raised

PAUSE = ("pause",)
LEAVE = ("exit", 0)
HALT = ("loop", ("pause",))


def check_signal(s):
    """Raise BadSignal unless s is a signal."""
    if not is_signal(s):
        raise BadSignal("not a signal")


def leave_at(s):
    """Go out if s is there."""
    return ("if", s, LEAVE, ("nothing",))


def watching_for(s):
    """Go out in the first later instant in which s is there."""
    return ("loop", ("seq", PAUSE, leave_at(s)))


def broken_off(s, inner):
    """inner, until it ends or a later instant in which s is there."""
    return ("trap", ("par", ("seq", inner, LEAVE), watching_for(s)))


def begun_anew(s, p):
    """p, begun anew in each later instant in which s is there."""
    # Raised without what stands behind it, which no exit leads out of: so p alone is judged.
    inner = ("seq", raised(p, 1), HALT)
    return ("loop", broken_off(s, ("suspend", s, inner)))


def halt():
    """Pause for ever."""
    return HALT


def sustain(s):
    """Emit s in each instant."""
    check_signal(s)
    return ("loop", ("seq", ("emit", s), PAUSE))


def waiting(s):
    """Pause until a later instant in which s is there."""
    check_signal(s)
    return ("trap", watching_for(s))


def at_once(s):
    """Pause until an instant in which s is there, the first one included."""
    check_signal(s)
    return ("trap", ("loop", ("seq", leave_at(s), PAUSE)))


def weakly(s, p):
    """p, run for the last time in a later instant in which s is there."""
    check_signal(s)
    return broken_off(s, raised(p, 1))


def strongly(s, p):
    """p, not run any more in a later instant in which s is there."""
    check_signal(s)
    return broken_off(s, ("suspend", s, raised(p, 1)))


def each(s, p):
    """p, begun anew in each later instant in which s is there."""
    check_signal(s)
    return begun_anew(s, p)


def every(s, p):
    """p, begun in each later instant in which s is there."""
    check_signal(s)
    return ("seq", ("trap", watching_for(s)), begun_anew(s, p))
