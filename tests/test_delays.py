import random

from restsure.delays import comes_to, element_list, is_standing, stepped, unsettled, woven
from restsure.errors import BadCircuit, BadElement, BadGiven, BadHeld, BadPicks, BadStanding, BadSteps
from restsure.laps import laps, rounds
from restsure.readings import is_whole, sure_readings
from tests import drawn, plainly
from tests.contract import Contract
from tests.test_readings import CASE, bad_case, cases
from tests.values import changed, every_kind, with_lists

SMALL = drawn.BY_HAND + drawn.lots_of(50)
FULL = (drawn.COUNTER, (0, 1), (1, 0), ((0, 1, 0, 1), ((0, 1), (1, 0, 0, 1), (), (1, 1))))
AT_REST = (drawn.SELF_AND, (1,), (), ((1,), ((1, 1),)))
STAND = CASE + ("standing",)


def drawn_standing(circuit, rng):
    """Bits for all gates and branches."""
    gates = tuple(rng.randint(0, 1) for _ in circuit[2])
    return gates, tuple(tuple(rng.randint(0, 1) for _ in sources) for sources, _ in circuit[2])


def stands(many=3):
    """Circuits with a case and drawn standings."""
    rng = random.Random(11)
    for args in cases(SMALL, readings=False):
        for _ in range(many):
            yield args + (drawn_standing(args[0], rng),)


def is_element(circuit, thing):
    return repr(thing) in [repr(x) for x in plainly.elements(circuit)]


def are_steps(circuit, thing):
    return type(thing) in (list, tuple) and len(thing) <= 20000 and all(is_element(circuit, x) for x in thing)


def are_picks(thing):
    return type(thing) in (list, tuple) and len(thing) <= 20000 and all(type(x) is int and x >= 0 for x in thing)


class Standings(Contract):
    def test_element_list(self):
        self.assertEqual(element_list(drawn.EMPTY), [])
        self.assertEqual(element_list(drawn.TWICE), [("gate", 0), ("branch", 0, 0), ("branch", 0, 1)])
        for circuit in SMALL:
            self.assertEqual(self.kept(element_list, ("circuit",), (circuit,)), plainly.elements(circuit))

    def test_is_standing(self):
        for args in stands(1):
            self.assertTrue(is_standing(args[0], args[3]))
        for args in (FULL, AT_REST):
            circuit = args[0]
            values = every_kind() + list(changed(args[3])) + [with_lists(args[3], depth) for depth in range(3)]
            told = self.judges(lambda x: self.kept(is_standing, ("circuit", "thing"), (circuit, x)),
                               lambda x: plainly.standing(circuit, x), values)
            self.assertGreater(told[False], 150)
            self.assertGreater(told[True], 1)
        self.assertTrue(is_standing(drawn.EMPTY, ((), ())))
        self.assertFalse(is_standing(drawn.EMPTY, ()))
        self.assertFalse(is_standing(drawn.TWICE, ((True,), ((0, 0),))))
        self.assertFalse(is_standing(drawn.TWICE, ((1,), ((False, 0),))))

    def test_comes_to_and_unsettled(self):
        for args in stands():
            self.assertEqual(self.kept(unsettled, STAND, args), plainly.unsettled(*args))
            for element in plainly.elements(args[0]):
                told = comes_to(*args, element)
                self.assertEqual(repr(told), repr(plainly.comes_to(*args, element)))
        for element in plainly.elements(drawn.COUNTER):
            self.kept(comes_to, STAND + ("element",), FULL + (element,))
        self.assertEqual(comes_to(*FULL, ("branch", 0, 0)), 1)
        self.assertEqual(comes_to(*FULL, ("gate", 2)), 1)
        self.assertEqual(unsettled(*AT_REST), [])
        self.assertEqual(unsettled(drawn.EMPTY, (), (), ((), ())), [])

    def test_by_hand(self):
        # Point 20: the steps lead back; together the branches would let it rest.
        steps = [("branch", 0, 1), ("gate", 0), ("branch", 0, 1), ("gate", 0)]
        start = ((1,), ((1, 0),))
        self.assertEqual(stepped(drawn.TWICE, (), (), start, steps), start)
        for many, wanted in ((1, ((1,), ((1, 1),))), (2, ((0,), ((1, 1),))), (3, ((0,), ((1, 0),))), (4, start)):
            self.assertEqual(stepped(drawn.TWICE, (), (), start, steps[:many]), wanted)
        self.assertEqual(stepped(drawn.TWICE, (), (), ((0,), ((0, 0),)), element_list(drawn.TWICE)), ((0,), ((0, 0),)))
        self.assertEqual(unsettled(drawn.TWICE, (), (), ((0,), ((0, 0),))), [])

    def test_wrong_ones(self):
        bad_case(self, unsettled, (FULL[3],), bits=True)
        bad_case(self, comes_to, (FULL[3], ("gate", 0)), bits=True)
        for function in (element_list, lambda x: is_standing(x, 0)):
            self.wrong_values(function, (drawn.COUNTER,), 0, BadCircuit, plainly.circuit, least=150)
        lists = [with_lists(FULL[3], depth) for depth in range(3)]
        for function, more in ((unsettled, ()), (comes_to, (("gate", 0),)), (stepped, ([],)), (woven, ([],)),
                               (rounds, ([],))):
            self.wrong_values(function, FULL + more, 3, BadStanding, lambda x: plainly.standing(FULL[0], x),
                              more=lists, least=150)
        for element in (("gate", 3), ("branch", 1, 3)):
            self.wrong_values(comes_to, FULL + (element,), 4, BadElement, lambda x: is_element(FULL[0], x), least=100,
                              more=[("gate", True), ("gate", 4), ("branch", 2, 0), ("branch", 1, 4), ("branch", 1),
                                    ("branch", True, 0), ("branch", 0, True), ("gate", 0, 0), ["gate", 0], ("reg", 0)])
        self.first_error(comes_to, FULL + (("gate", 0),), (BadCircuit, BadGiven, BadHeld, BadStanding, BadElement))
        self.first_error(unsettled, FULL, (BadCircuit, BadGiven, BadHeld, BadStanding))


class Steps(Contract):
    def test_stepped(self):
        rng = random.Random(13)
        for args in stands():
            every = plainly.elements(args[0])
            steps = [rng.choice(every) for _ in range(rng.randint(0, 12))] if every else []
            stand = args[3]
            for element in steps:
                stand = plainly.step(args[0], args[1], args[2], stand, element)
            self.assertEqual(self.kept(stepped, STAND + ("steps",), args + (steps,)), stand)
            self.alike_lists(stepped, args + (steps,), 4)

    def test_woven(self):
        rng = random.Random(17)
        for args in stands(2):
            picks = [rng.choice((0, 1, 5, 999999999, rng.randint(0, 99))) for _ in range(rng.randint(0, 14))]
            stand, steps = args[3], []
            for pick in picks:
                loose = plainly.unsettled(args[0], args[1], args[2], stand)
                if not loose:
                    break
                steps.append(loose[pick % len(loose)])
                stand = plainly.step(args[0], args[1], args[2], stand, steps[-1])
            self.assertEqual(self.kept(woven, STAND + ("picks",), args + (picks,)), (tuple(steps), stand))
            self.alike_lists(woven, args + (picks,), 4)
            self.assertEqual(stepped(*args, list(steps)), stand)

    def test_edges(self):
        none = (drawn.EMPTY, (), (), ((), ()))
        self.assertEqual(stepped(*none, []), ((), ()))
        self.assertEqual(woven(*none, [0, 7]), ((), ((), ())))
        self.assertEqual(rounds(*none, []), [])
        self.assertEqual(woven(*AT_REST, [1, 2, 3]), ((), AT_REST[3]))
        self.assertEqual(woven(*AT_REST, []), ((), AT_REST[3]))
        self.assertEqual(woven(*FULL, []), ((), FULL[3]))
        steps = [("branch", 0, 1), ("gate", 0)] * 10000
        start = ((1,), ((1, 0),))
        self.assertEqual(stepped(drawn.TWICE, (), (), start, steps), start)
        self.assertEqual(len(woven(drawn.TWICE, (), (), start, [0] * 20000)[0]), 4)
        ring = (0, (), drawn.ring(3, 1), ())
        resting = ((0, 0, 0), ((0,), (0,), (0,)))
        self.assertEqual(len(woven(ring, (), (), resting, [0] * 20000)[0]), 20000)
        for function, more, error in ((stepped, [("gate", 0)], BadSteps), (rounds, [("gate", 0)], BadSteps),
                                      (woven, [0], BadPicks)):
            function(*FULL, more * 20000)
            self.refuses(error, function, FULL + (more * 20001,))
            self.refuses(error, function, FULL + (tuple(more) * 20001,))

    def test_wrong_ones(self):
        steps = [("gate", 1), ("branch", 1, 3), ("branch", 0, 0)]
        for function in (stepped, rounds):
            bad_case(self, function, (FULL[3], steps), bits=True)
            self.wrong_values(function, FULL + (steps,), 4, BadSteps, lambda x: are_steps(FULL[0], x), least=150,
                              more=[[["gate", 1]], [("gate", True)], [("branch", True, 0)], [("branch", 0, False)],
                                    [("gate", 4)], [("gate", -1)], [("branch", 2, 0)], {("gate", 0): 1}, "gate"])
            self.first_error(function, FULL + (steps,), (BadCircuit, BadGiven, BadHeld, BadStanding, BadSteps))
            self.refuses(BadSteps, function, (drawn.EMPTY, (), (), ((), ()), [("gate", 0)]))
        bad_case(self, woven, (FULL[3], [0, 1]), bits=True)
        self.wrong_values(woven, FULL + ([0, 3, 7],), 4, BadPicks, are_picks, least=80,
                          more=[[-1], [True], [None], ["0"], [[0]], [(0,)], {0: 0}, "0"])
        self.first_error(woven, FULL + ([0],), (BadCircuit, BadGiven, BadHeld, BadStanding, BadPicks))


class RoundsAndLaps(Contract):
    def test_rounds(self):
        rng = random.Random(19)
        many = 0
        for args in stands():
            every = plainly.elements(args[0])
            steps = [rng.choice(every) for _ in range(rng.randint(0, 40))] if every else []
            told = self.kept(rounds, STAND + ("steps",), args + (steps,))
            self.assertEqual(told, plainly.rounds(*args, steps))
            self.alike_lists(rounds, args + (steps,), 4)
            many += len(told)
        self.assertGreater(many, 500)

    def test_rounds_by_hand(self):
        # At rest each step, of what is settled, is a round.
        self.assertEqual(rounds(*AT_REST, [("gate", 0), ("branch", 0, 1), ("gate", 0)]), [1, 2, 3])
        self.assertEqual(rounds(*AT_REST, []), [])
        one = (0, (), (((("bit", 1),), drawn.SAME),), ())
        start = ((0,), ((0,),))
        # The branch is not settled at first, the gate is: one step of the branch ends the round.
        self.assertEqual(rounds(one, (), (), start, [("branch", 0, 0)]), [1])
        self.assertEqual(rounds(one, (), (), start, [("gate", 0), ("gate", 0), ("branch", 0, 0), ("branch", 0, 0),
                                                     ("gate", 0)]), [3, 5])
        # A gate that is settled at a moment within the round needs no step.
        self.assertEqual(rounds(one, (), (), ((1,), ((0,),)), [("branch", 0, 0)]), [1])

    def test_laps(self):
        for args in cases(SMALL, readings=False):
            told = self.kept(laps, CASE, args)
            self.assertEqual(told, plainly.laps(*args)[1])
            self.assertEqual([lap is None for lap in told], [bit is None for bit in sure_readings(*args)])
        self.assertEqual(laps(drawn.EMPTY, (), ()), [])
        self.assertEqual(laps(drawn.ODD_RING, (0,), ()), [1, None, None])
        self.assertEqual(laps((0, (), drawn.wires(2000), ()), (), ()), list(range(1, 2001)))
        bad_case(self, laps, bits=True)

    def test_fact_of_rounds_and_laps(self):
        # From the end of round 2 n on a gate of lap n has its sure bit, from 2 n + 1 on its branches.
        rng = random.Random(23)
        whole = 0
        for args in stands(2):
            circuit, given, held, stand = args
            every = plainly.elements(circuit)
            if not every:
                continue
            sure, told = sure_readings(circuit, given, held), laps(circuit, given, held)
            steps = [rng.choice(every) for _ in range(200)]
            ends = rounds(*args, steps)
            for done in range(1, len(steps) + 1):
                stand = plainly.step(circuit, given, held, stand, steps[done - 1])
                behind = sum(1 for end in ends if end <= done)
                for gate, lap in enumerate(told):
                    if lap is not None and behind >= 2 * lap:
                        self.assertEqual(stand[0][gate], sure[gate])
                    if lap is not None and behind >= 2 * lap + 1:
                        for reader, (sources, _) in enumerate(circuit[2]):
                            for place, source in enumerate(sources):
                                if source == ("gate", gate):
                                    self.assertEqual(stand[1][reader][place], sure[gate])
                if is_whole(circuit, given, held) and behind >= 2 * max(told) + 1:
                    self.assertEqual(plainly.unsettled(circuit, given, held, stand), [])
                    whole += 1
                    break
        self.assertGreater(whole, 50)

    def test_great_ones(self):
        many = 2000
        ring = (0, (), tuple(((("gate", (at - 1) % many), ("gate", at * 7 % many)), drawn.UNLIKE) for at in range(many)), ())
        start = ((1,) + (0,) * (many - 1), ((0, 0),) * many)
        steps, stand = woven(ring, (), (), start, [at * at for at in range(20000)])
        self.assertEqual(stepped(ring, (), (), start, steps), stand)
        self.assertEqual(unsettled(ring, (), (), stand) == [], len(steps) < 20000)
        self.assertEqual(rounds(ring, (), (), ((0,) * many, ((0, 0),) * many), [("gate", 7)] * 20000),
                         list(range(1, 20001)))
