import itertools
import random

from restsure.errors import TooMany
from restsure.sights import Scene, given_masks
from tests import drawnwords, plainly, plainwords
from tests.contract import Contract
from tests.drawnwords import NOTHING, PAUSE, broad, chain

PROGRAM = (("b", "a"), ("p", "o"), NOTHING)


def drawn_states(many):
    for seed in range(many):
        rng = random.Random(2000 + seed)
        yield drawnwords.draw(rng, rng.randint(1, 16), ("a", "b", "o", "p"), True, exits=-1)


class Seen(Contract):
    """All instants of a state, seen at once, against each of them by itself."""

    def test_drawn(self):
        seen = {True: 0, False: 0}
        for state in list(drawn_states(400)) + [None]:
            scene = Scene(PROGRAM, state)
            for given, mask in zip(plainly.all_bits(2), given_masks(PROGRAM)):
                told = plainwords.react(PROGRAM, state, given)
                sight = scene.last(mask)
                self.assertEqual(sight.is_sure(), told is not None)
                seen[told is not None] += 1
                if told is not None:
                    rest = scene.rest(sight)
                    self.assertEqual((scene.totals(sight, mask), 0 if rest is None else 1, rest), told)
                    self.assertEqual(scene.label(sight), repr(rest))
        self.assertGreater(min(seen.values()), 200)

    def test_papers(self):
        rng = random.Random(8)
        for state in drawn_states(200):
            scene = Scene(PROGRAM, state)
            for given, mask in zip(plainly.all_bits(2), given_masks(PROGRAM)):
                paper = scene.paper(mask)
                self.assertTrue(plainwords.is_shown_sure(PROGRAM, state, given, paper))
                _, steps = plainwords.known_at(PROGRAM, state, given, choose=rng.choice)
                some = tuple(step for step in steps if type(step[0]) is str or rng.random() < 0.5)
                things = [paper[1], steps, steps[:-1], steps[1:], steps[::-1], some, steps + steps[:1], list(steps)]
                for word, thing in itertools.product(("sure", "unsure"), things):
                    wanted = plainwords.is_shown_sure(PROGRAM, state, given, (word, thing))
                    self.assertIs(scene.shows(mask, word, (word, thing)), wanted)
                    self.assertFalse(scene.shows(mask, word, ({"sure": "unsure", "unsure": "sure"}[word], thing)))

    def test_rests_that_are_too_great(self):
        for state, most in ((("loop", broad(1000)), 2000), (("loop", chain(79)), 80), (("loop", chain(65, broad(1400))), 2000)):
            scene = Scene(PROGRAM, state)
            self.assertEqual(scene.label(scene.last(0)), "")
            with self.assertRaises(TooMany) as caught:
                scene.rest(scene.last(0))
            self.assertEqual(caught.exception.most, most)

    def test_codes_that_are_not_known(self):
        # Whether the emit behind can be run hangs on the codes that each side can have.
        sides = [NOTHING, PAUSE, ("exit", 0), ("exit", 1), ("if", "o", PAUSE, PAUSE), ("if", "o", PAUSE, ("exit", 0)),
                 ("if", "o", NOTHING, PAUSE), ("if", "o", ("exit", 0), NOTHING), ("hold", "o", NOTHING), ("hold", "o", ("exit", 1)),
                 ("if", "o", ("exit", 1), ("exit", 1)), ("local", "s", ("if", "s", NOTHING, PAUSE))]
        for one, other in itertools.product(sides, repeat=2):
            for inner in (("par", one, other), ("trap", ("par", one, other)), ("seq", one, other), ("trap", ("seq", one, other))):
                state = ("trap", ("trap", ("seq", ("trap", ("seq", inner, ("emit", "o"))), ("emit", "p"))))
                scene = Scene(PROGRAM, state)
                told = plainwords.react(PROGRAM, state, (0, 0))
                sight = scene.last(0)
                self.assertEqual(sight.is_sure(), told is not None)
                if told is not None:
                    self.assertEqual((scene.totals(sight, 0), scene.rest(sight)), (told[0], told[2]))
                self.assertTrue(plainwords.is_shown_sure(PROGRAM, state, (0, 0), scene.paper(0)))

    def test_what_waits_for_one_another(self):
        # Each local is known only when the one ahead of it is: the last one by the input.
        body = ("if", "a", ("emit", "s"), PAUSE)
        for number in range(24):
            name, ahead = "st"[number % 2], "ts"[number % 2]
            body = ("local", name, ("par", body, ("if", name, ("emit", ahead), PAUSE)))
        state = ("local", "s", ("local", "t", body))
        scene = Scene(PROGRAM, state)
        for given, mask in zip(plainly.all_bits(2), given_masks(PROGRAM)):
            self.assertTrue(plainwords.is_shown_sure(PROGRAM, state, given, scene.paper(mask)))
            self.assertEqual(scene.rest(scene.last(mask)), plainwords.react(PROGRAM, state, given)[2])
