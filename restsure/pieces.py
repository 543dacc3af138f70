"""Pieces of programs, the surroundings around them, and pieces that no surroundings tell apart."""

from restsure.errors import BadGiven, BadPiece, BadRun, BadSignals, BadStanding, BadStatement
from restsure.errors import BadSurroundings, TooMany, Unlike
from restsure.faces import Face, Faces
from restsure.kinds import is_bits, is_number, is_readings, is_row, is_signal, is_tuple_of
from restsure.meetings import Meeting, stands
from restsure.opens import HOLE, exchanged, leaves_of, surroundings_plan
from restsure.plans import rest_plan, statement_plan
from restsure.statements import free_names

MOST_SIGNALS = 3
MOST_PIECE_PARTS = 40
MOST_PIECE_LEVELS = 15
# The traps around a piece to which its exits may lead.
NEAR_TRAPS = 2
MOST_MET = 300


def are_piece_signals(thing):
    """Whether thing, any value, is a tuple of 1 to 3 signals that rise."""
    if not isinstance(thing, tuple) or not 1 <= len(thing) <= MOST_SIGNALS:
        return False
    if not all(is_signal(name) for name in thing):
        return False
    return list(thing) == sorted(set(thing))


def fits_signals(signals, plan):
    """Whether the free signals of a plan are among these, and its exits lead to near traps."""
    if not all(name in signals for name in free_names(plan)):
        return False
    for number, part in enumerate(plan.parts):
        if part[0] == "exit" and part[1] >= plan.traps_around(number) + NEAR_TRAPS:
            return False
    return True


def is_piece(thing):
    """Whether thing, any value, is a piece."""
    if not is_tuple_of(thing, 2) or not are_piece_signals(thing[0]):
        return False
    plan = statement_plan(thing[1])
    if plan is None or len(plan.parts) > MOST_PIECE_PARTS:
        return False
    if max([len(path) for path in plan.paths]) >= MOST_PIECE_LEVELS:
        return False
    return fits_signals(thing[0], plan)


def is_standing_of(signals, thing):
    """Whether thing, any value, is a standing of these signals."""
    plan = rest_plan(thing)
    return plan is not None and fits_signals(signals, plan)


def check_standing(signals, standing):
    """Raise BadSignals or BadStanding unless standing is one of these signals."""
    if not are_piece_signals(signals):
        raise BadSignals("not a tuple of 1 to 3 signals that rise")
    if not is_standing_of(signals, standing):
        raise BadStanding("not a standing of the signals")


def piece_reading(signals, standing, run, given):
    """The pair of the readings of the signals and of the codes 0 to 3."""
    check_standing(signals, standing)
    if run is not None and not (is_number(run) and run == 1):
        raise BadRun("not 1 or None")
    if not is_readings(given, len(signals)):
        raise BadGiven("not a tuple of readings of the signals")
    return Face(signals, standing).reading(run, given)


def piece_settled(signals, standing, given):
    """The triple (totals, code, rest) by bits of the signals; None unless all is known."""
    check_standing(signals, standing)
    if not is_bits(given, len(signals)):
        raise BadGiven("not a tuple of bits of the signals")
    return Face(signals, standing).settled(given)


def check_piece(piece):
    """Raise BadPiece unless piece is one."""
    if not is_piece(piece):
        raise BadPiece("not a piece")


def check_pieces(one, other):
    """Raise BadPiece or Unlike unless both are pieces of the same signals."""
    check_piece(one)
    check_piece(other)
    if one[0] != other[0]:
        raise Unlike("not the same signals")


def pieces_meeting(one, other):
    """The meeting of two pieces; BadPiece, Unlike, TooMany."""
    check_pieces(one, other)
    faces = Faces(one[0])
    return Meeting(faces, faces, (faces.text(one[1]), faces.text(other[1])))


def pieces_pairing(one, other):
    """The list of the pairs of standings that are met, None unless the pieces do alike."""
    meeting = pieces_meeting(one, other)
    if meeting.misfit is not None:
        return None
    standings = meeting.one.standings
    return [(standings[left], standings[right]) for left, right in meeting.pairs]


def is_pieces_pairing(one, other, thing):
    """Whether thing, any value, is a list of pairs of standings that shows that the pieces do alike."""
    check_pieces(one, other)
    if not is_row(thing):
        return False
    faces = Faces(one[0])
    pairs = {}
    for pair in thing:
        if not is_tuple_of(pair, 2) or not all(is_standing_of(one[0], standing) for standing in pair):
            return False
        key = (faces.text(pair[0]), faces.text(pair[1]))
        if key in pairs:
            return False
        pairs[key] = True
    if (repr(one[1]), repr(other[1])) not in pairs:
        return False
    return stands(faces, faces, pairs)


def is_surroundings(thing):
    """Whether thing, any value, is a statement with holes in it."""
    plan = surroundings_plan(thing)
    if plan is None:
        return False
    holes = leaves_of(plan, HOLE)
    if not holes or min([plan.traps_around(hole) for hole in holes]) < NEAR_TRAPS:
        return False
    return statement_plan(exchanged(plan, {hole: ("pause",) for hole in holes})) is not None


def put_in(surroundings, body):
    """The statement with body in the place of each hole."""
    if not is_surroundings(surroundings):
        raise BadSurroundings("not a statement with holes that stand in two traps")
    if statement_plan(body) is None:
        raise BadStatement("not a statement")
    plan = surroundings_plan(surroundings)
    whole = exchanged(plan, {hole: body for hole in leaves_of(plan, HOLE)})
    if statement_plan(whole) is None:
        raise BadStatement("what comes is not a statement")
    return whole


def met_standings(faces, first):
    """The list of the standings, by their texts, that are met from the first one."""
    found = [first]
    seen = {first: True}
    at = 0
    while at < len(found):
        for _, near in faces.following(found[at]):
            if near in seen:
                continue
            if len(found) == MOST_MET:
                raise TooMany(MOST_MET)
            seen[near] = True
            found.append(near)
        at += 1
    return found


def lots_of_alike(faces, found):
    """The dict from the standings to the numbers of their lots, those that do alike in one."""
    lots = {}
    shown = []
    for text in found:
        told = faces.shown(text)
        if told not in shown:
            shown.append(told)
        lots[text] = shown.index(told)
    many = 0
    while many < len(set(list(lots.values()))):
        # Lots are only ever parted: as many as ahead are the same ones.
        many = len(set(list(lots.values())))
        numbers = {}
        parted = {}
        for text in found:
            key = (lots[text],) + tuple([lots[near] for _, near in faces.following(text)])
            if key not in numbers:
                numbers[key] = len(numbers)
            parted[text] = numbers[key]
        lots = parted
    return lots


def classes(piece):
    """The list of the lots of the standings that are met, those that do alike in one tuple."""
    check_piece(piece)
    faces = Faces(piece[0])
    found = met_standings(faces, faces.text(piece[1]))
    lots = lots_of_alike(faces, found)
    told = {}
    for text in found:
        told.setdefault(lots[text], []).append(faces.standings[text])
    return [tuple(row) for row in told.values()]
