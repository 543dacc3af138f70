"""Rounds of steps, and the laps in which gates become sure."""

from restsure.cases import check_bits, sure_laps
from restsure.delays import check_steps, web_of
from restsure.webs import step_watched, unsettled_now


def rounds(circuit, given, held, standing, steps):
    """The ascending list of how many steps are done where rounds end."""
    check_steps(circuit, given, held, standing, steps)
    web = web_of(circuit, given, held, standing)
    loose = unsettled_now(web)
    waiting = dict(loose)
    ends = []
    for done, element in enumerate(steps, start=1):
        step_watched(web, web.number(element), loose, waiting)
        if not waiting:
            ends.append(done)
            waiting = dict(loose)
    return ends


def laps(circuit, given, held):
    """The list of the laps in which the gates become sure, None for those that never do."""
    check_bits(circuit, given, held)
    told = [None] * len(circuit[2])
    for lap, pairs in enumerate(sure_laps(circuit, given, held), start=1):
        for gate, _ in pairs:
            told[gate] = lap
    return told
