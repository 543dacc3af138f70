"""Inputs that are chosen so that a signal is kept away, or ways to force it to be there."""

from restsure.errors import Lost, Wide
from restsure.games import Game
from restsure.kinds import is_below, is_bits, is_number, is_tuple_of
from restsure.machines import MOST_WIDTH


def steering(program, own, word, signal):
    """Choices that keep the signal away for ever, or answers by which none of them withstands."""
    game = Game(program, own, word, signal)
    lost = game.lost_states()
    if 0 in lost:
        return "lost", lost
    return "kept", game.kept_states(lost)


def are_bits_for(thing, rows, within):
    """Whether thing is one of the rows of bits; if within is not None, a tuple of so many of them."""
    width = len(rows[0])
    if within is None:
        return is_bits(thing, width)
    return is_tuple_of(thing, within) and all(is_bits(bits, width) for bits in thing)


def has_numbers(game, thing):
    """Whether thing is a dict from numbers of reached states, 0 among them."""
    if not isinstance(thing, dict):
        return False
    many = len(game.cells)
    # A bool as a key would be found as if it were a number.
    return all(is_below(number, many) for number in list(thing)) and 0 in thing


def are_choices(game, thing):
    """Whether thing, any value, keeps the signal away from its states, 0 among them."""
    if not has_numbers(game, thing):
        return False
    within = len(game.foreigns) if game.seeing else None
    for choice in thing.values():
        if not are_bits_for(choice, game.owns, within):
            return False
    places = {bits: mine for mine, bits in enumerate(game.owns)}
    for number, choice in thing.items():
        for theirs in range(len(game.foreigns)):
            mine = places[game.chosen(choice, theirs)]
            if game.cells[number][game.at[mine][theirs]] not in thing:
                return False
    return True


def are_answers(game, thing):
    """Whether thing, any value, forces the signal to be there from its states, 0 among them."""
    if not has_numbers(game, thing):
        return False
    within = None if game.seeing else len(game.owns)
    for pair in thing.values():
        if not is_tuple_of(pair, 2) or not is_number(pair[0]) or pair[0] < 1:
            return False
        if not are_bits_for(pair[1], game.foreigns, within):
            return False
    places = {bits: theirs for theirs, bits in enumerate(game.foreigns)}
    for number, (rank, answers) in thing.items():
        for mine in range(len(game.owns)):
            theirs = places[answers if game.seeing else answers[mine]]
            following = game.cells[number][game.at[mine][theirs]]
            if following is not None and (following not in thing or thing[following][0] >= rank):
                return False
    return True


def is_steering(program, own, word, signal, thing):
    """Whether thing, any value, shows that the signal can be kept away, or that it cannot."""
    game = Game(program, own, word, signal)
    if not is_tuple_of(thing, 2):
        return False
    if thing[0] == "kept":
        return are_choices(game, thing[1])
    return thing[0] == "lost" and are_answers(game, thing[1])


def steered(program, own, word, signal):
    """The machine of the program whose own inputs are chosen so that the signal is kept away."""
    game = Game(program, own, word, signal)
    lost = game.lost_states()
    if 0 in lost:
        raise Lost("the signal cannot be kept away")
    many = len(program[0]) + len(program[1])
    if many > MOST_WIDTH:
        raise Wide(MOST_WIDTH)
    choices = game.kept_states(lost)
    places = {bits: mine for mine, bits in enumerate(game.owns)}
    numbers = {0: 0}
    found = [0]
    states = []
    while len(states) < len(found):
        number = found[len(states)]
        pairs = []
        for theirs, foreign in enumerate(game.foreigns):
            mine = places[game.chosen(choices[number], theirs)]
            totals, _, following = game.reach.table[number][game.at[mine][theirs]]
            if following not in numbers:
                numbers[following] = len(found)
                found.append(following)
            pairs.append((foreign + totals, numbers[following]))
        states.append(tuple(pairs))
    return len(game.foreigns[0]), many, tuple(states)
