import itertools
import random

from restsure.circuits import is_circuit
from restsure.errors import BadCircuit, BadFrame, BadGiven, BadHeld, BadPart, TooMany, Unlike
from restsure.joined import is_pairing, joined_circuit, opened, pairing, parting, settled
from restsure.readings import instant, run_circuit
from tests import drawn, plainly, plainparts
from tests.contract import Contract
from tests.drawn import AND, NOT, OR, SAME, UNLIKE
from tests.values import changed, every_kind

# Point 70, and point 72: i or not i, of two gates, and 1 without gates.
WIRE = (1, (), (), (("in", 0),))
EITHER = (1, (), (((("in", 0),), NOT), ((("in", 0), ("gate", 0)), OR)), (("gate", 1),))
ALWAYS = (1, (), (), (("bit", 1),))
HOLDS = (1, ((0, ("gate", 0)), (1, ("reg", 0))), (((("in", 0), ("reg", 1)), AND),), (("gate", 0), ("reg", 0)))
PARTS = [what for what in drawn.lots_of(500, most_inputs=2) + drawn.lots_of(200, most_gates=6, most_inputs=3, most_registers=2)]


def lock(word):
    """Registers and gates that go on by a word of pairs of bits, and the source that is 1 behind it.

    Register 0 is 1 from the second instant on; register k is 1 if the first k pairs were given.
    """
    registers, gates = [(0, ("bit", 1))], []
    for at, pair in enumerate(word):
        ahead = ("reg", at)
        table = tuple(int((a, b) == pair and held != (at == 0)) for b in (0, 1) for a in (0, 1) for held in (0, 1))
        gates.append(((ahead, ("in", 0), ("in", 1)), table))
        registers.append((0, ("gate", at)))
    return tuple(registers), tuple(gates), ("reg", len(word))


def by_sizes(parts):
    """The lists of the parts of as many inputs and outputs."""
    lots = {}
    for what in parts:
        lots.setdefault((what[0], len(what[3])), []).append(what)
    return list(lots.values())


def drawn_frame(rng, what):
    """A frame for a part, often one with rings through both."""
    inputs, outputs = len(what[3]) + rng.randint(0, 2), what[0] + rng.randint(0, 2)
    registers, gates = rng.randint(0, 2), rng.randint(0, 4)

    def source():
        kinds = [("in", inputs), ("in", inputs), ("reg", registers), ("gate", gates), ("gate", gates), ("bit", 2)]
        kind, many = rng.choice([row for row in kinds if row[1]])
        return kind, rng.randrange(many)
    rows = []
    for _ in range(gates):
        many = rng.randint(1, 3)
        rows.append((tuple(source() for _ in range(many)), tuple(rng.randint(0, 1) for _ in range(2 ** many))))
    return (inputs, tuple((rng.randint(0, 1), source()) for _ in range(registers)), tuple(rows),
            tuple(source() for _ in range(outputs)))


def counter(bits, last=None):
    """The registers and gates of a counter of so many bits; it begins anew behind last."""
    gates = []
    for at in range(bits):
        carry = ("gate", len(gates) - 1) if at else ("bit", 1)
        gates.append(((("reg", at), carry), UNLIKE))
        gates.append(((("reg", at), carry), AND))
    registers = [(0, ("gate", 2 * at)) for at in range(bits)]
    if last is not None:
        same = ("bit", 1)
        for at in range(bits):
            gates.append((((same), ("reg", at)), AND if last >> at & 1 else (0, 1, 0, 0)))
            same = ("gate", len(gates) - 1)
        for at in range(bits):
            gates.append(((("gate", 2 * at), same), (0, 1, 0, 0)))
            registers[at] = (0, ("gate", len(gates) - 1))
    return tuple(registers), tuple(gates)


class Joined(Contract):
    def test_by_hand(self):
        self.assertEqual(joined_circuit(WIRE, WIRE), (0, (), (((("gate", 0),), SAME),), ()))
        # An input of the frame that is an output of the part, which is an input of the part.
        frame = (2, ((1, ("in", 1)),), (((("in", 0), ("in", 1)), AND),), (("in", 1), ("gate", 0)))
        part = (1, ((0, ("gate", 0)),), (((("reg", 0), ("in", 0)), OR),), (("in", 0),))
        wanted = (1, ((1, ("gate", 1)), (0, ("gate", 2))),
                  (((("in", 0), ("gate", 1)), AND), ((("gate", 0),), SAME), ((("reg", 1), ("gate", 1)), OR)), (("gate", 1),))
        self.assertEqual(joined_circuit(frame, part), wanted)
        self.assertEqual(joined_circuit((0, (), (), ()), (0, (), (), ())), (0, (), (), ()))
        self.assertEqual(joined_circuit((1, (), (), (("in", 0),)), (0, (), (), (("bit", 1),))), (0, (), (), (("bit", 1),)))

    def test_drawn(self):
        rng = random.Random(1)
        whole, rings = 0, 0
        for what in PARTS:
            frame = drawn_frame(rng, what)
            told = self.kept(joined_circuit, ("frame", "part"), (frame, what))
            self.assertEqual(repr(told), repr(plainparts.joined(frame, what)))
            self.assertTrue(is_circuit(told))
            for given in plainly.all_bits(told[0]):
                held = tuple(bit for bit, _ in told[1])
                both = instant(told, given, held)
                whole += both is not None
                rings += both is None
                self.meets(frame, what, told, given, held)
        self.assertGreater(min(whole, rings), 300)

    def meets(self, frame, what, told, given, held):
        """HEART of 71: the least readings in which the frame reads what opened tells."""
        first, rest = held[:len(frame[1])], held[len(frame[1]):]
        ways, shown = (None,) * what[0], None
        gates = [None] * len(frame[2])
        while shown != (ways, tuple(gates)):
            shown = (ways, tuple(gates))
            outputs = opened(what, rest, ways)
            gates, _ = plainly.laps(frame, given + outputs, first)
            fed = [plainly.of_source(item, given + outputs, first, gates) for item in frame[3]]
            ways = tuple(fed[len(frame[3]) - what[0]:])
        sure, _ = plainly.laps(told, given, held)
        self.assertEqual(tuple(sure[:len(frame[2])]), tuple(gates))
        self.assertEqual(tuple(sure[len(frame[2]):len(frame[2]) + what[0]]), ways)
        inner, _ = plainly.laps(what, ways, rest)
        self.assertEqual(list(sure[len(frame[2]) + what[0]:]), list(inner))

    def test_limits(self):
        great = (1, (), drawn.wires(1000), (("in", 0),))
        for many, right in ((999, True), (1000, False)):
            frame = (1, (), drawn.wires(many), (("in", 0),))
            if right:
                self.assertEqual(len(joined_circuit(frame, great)[2]), 2000)
            else:
                self.too_many(2000, joined_circuit, frame, great)
        holds = (0, ((0, ("bit", 0)),) * 30, (), ())
        self.assertEqual(len(joined_circuit(holds, holds)[1]), 60)
        more = (0, ((0, ("bit", 0)),) * 31, (), ())
        self.too_many(60, joined_circuit, holds, more)
        self.too_many(60, joined_circuit, more, holds)
        self.too_many(2000, joined_circuit, (1, more[1], drawn.wires(2000), (("in", 0),)), (1, more[1], (), (("in", 0),)))
        self.refuses(BadFrame, joined_circuit, ((0, more[1], drawn.wires(2000), ()), (1, more[1], drawn.wires(2000), ())))

    def too_many(self, most, function, *args):
        with self.assertRaises(TooMany) as caught:
            function(*args)
        self.assertEqual(caught.exception.most, most)

    def test_wrong_ones(self):
        frame = (2, (), (), (("in", 0), ("in", 1)))
        args = (frame, WIRE)

        def is_part(x):
            return plainparts.part(x) and plainparts.is_frame(frame, x)
        self.wrong_values(joined_circuit, args, 0, BadCircuit, plainly.circuit, least=20)
        for value in every_kind() + list(changed(WIRE)):
            if not plainparts.part(value):
                self.refuses(BadPart, joined_circuit, (frame, value))
            elif not is_part(value):
                self.refuses(BadFrame, joined_circuit, (frame, value))
        for value in (5, (5, (), (), ()), (0, (), (), (("bit", 0),) * 9), (0, (), (), (("bit", True),))):
            self.refuses(BadPart, joined_circuit, (frame, value))
        for other in ((0, (), (), (("bit", 0),)), (1, (), (), ()), (0, (), (), ())):
            self.refuses(BadFrame, joined_circuit, (other, WIRE))
        self.first_error(joined_circuit, args, (BadCircuit, BadPart))


class Opened(Contract):
    def test_drawn(self):
        told = {True: 0, False: 0}
        for what in PARTS[:250] + [WIRE, EITHER, ALWAYS, HOLDS]:
            for held in plainly.all_bits(len(what[1])):
                for given in plainly.all_readings(what[0]):
                    self.assertEqual(repr(opened(what, held, given)), repr(plainparts.opened(what, held, given)))
                for given in plainly.all_bits(what[0]):
                    both = settled(what, held, given)
                    self.assertEqual(repr(both), repr(plainparts.settled(what, held, given)))
                    told[both is None] += 1
        self.assertGreater(min(told.values()), 200)
        self.kept(opened, ("part", "held", "given"), (HOLDS, (1, 0), (None,)))
        self.kept(settled, ("part", "held", "given"), (HOLDS, (1, 0), (1,)))

    def test_by_hand(self):
        self.assertEqual(opened(EITHER, (), (None,)), (None,))
        self.assertEqual(opened(ALWAYS, (), (None,)), (1,))
        self.assertEqual(settled(EITHER, (), (0,)), ((1,), ()))
        self.assertEqual(settled(HOLDS, (1, 0), (1,)), ((0, 1), (0, 1)))
        self.assertEqual(opened(HOLDS, (0, 1), (None,)), (None, 0))
        # A part that is not whole, though its outputs are sure.
        loose = (1, (), (((("gate", 0),), SAME),), (("in", 0),))
        self.assertEqual((opened(loose, (), (1,)), settled(loose, (), (1,))), ((1,), None))

    def test_wrong_ones(self):
        args = (HOLDS, (0, 1), (1,))
        for function, is_right in ((opened, plainly.readings), (settled, plainly.bits)):
            self.wrong_values(function, args, 0, BadPart, plainparts.part, least=100, more=((5, (), (), ()), (0, (), (), (("bit", 0),) * 9)))
            self.wrong_values(function, args, 1, BadHeld, lambda x: plainly.bits(x, 2), least=100, more=((0, None),))
            self.wrong_values(function, args, 2, BadGiven, lambda x: is_right(x, 1), least=100)
            self.first_error(function, args, (BadPart, BadHeld, BadGiven))


class Pairings(Contract):
    def tells_apart(self, one, other):
        """A frame and a number of instants part both."""
        frame, many = self.kept(parting, ("one", "other"), (one, other))
        self.assertTrue(is_circuit(frame))
        self.assertTrue(plainparts.is_frame(frame, one))
        self.assertEqual(joined_circuit(frame, one)[0], 0)
        runs = [run_circuit(joined_circuit(frame, what), [()] * many) for what in (one, other)]
        fits = False
        for (told, index), (others, other_index) in (runs, runs[::-1]):
            if index is None and told[:many - 1] == others[:many - 1]:
                fits = fits or other_index == many - 1 or other_index is None and others != told
        self.assertTrue(fits, (one, other, frame, many, runs))
        return many

    def test_drawn_pairs(self):
        rng = random.Random(2)
        told = {"alike": 0, "parted": 0, "later": 0}
        for row in by_sizes(PARTS):
            for _ in range(40):
                one, other = rng.choice(row), rng.choice(row)
                if rng.random() < 0.4:
                    other = near_part(rng, one)
                if rng.random() < 0.3:
                    one, other = later_part(one), later_part(other)
                found = self.kept(pairing, ("one", "other"), (one, other))
                self.assertEqual(repr(found), repr(plainparts.least_pairing(one, other)))
                if found is None:
                    many = self.tells_apart(one, other)
                    told["parted" if many == 1 else "later"] += 1
                else:
                    self.assertIsNone(parting(one, other))
                    self.assertIs(self.kept(is_pairing, ("one", "other", "thing"), (one, other, found)), True)
                    self.alike_lists(is_pairing, (one, other, found), 2)
                    told["alike"] += 1
        self.assertGreater(min(told["alike"], told["parted"]), 200)
        self.assertGreater(told["later"], 15)

    def test_do_alike_exactly_if_no_frame_tells_them_apart(self):
        # HEART: parts that do alike are exchanged within drawn frames with no change.
        rng = random.Random(3)
        for row in by_sizes(PARTS):
            for _ in range(25):
                one, other = rng.choice(row), near_part(rng, rng.choice(row))
                one = near_part(rng, other) if rng.random() < 0.7 else one
                if pairing(one, other) is None:
                    continue
                for _ in range(4):
                    frame = drawn_frame(rng, one)
                    rows = [tuple(rng.randint(0, 1) for _ in range(frame[0] - len(one[3]))) for _ in range(5)]
                    self.assertEqual(*[run_circuit(joined_circuit(frame, what), rows) for what in (one, other)])

    def test_the_example(self):
        self.assertIsNone(pairing(EITHER, ALWAYS))
        self.assertEqual(self.tells_apart(EITHER, ALWAYS), 1)
        self.assertEqual(self.tells_apart(ALWAYS, EITHER), 1)
        self.assertEqual(run_circuit(joined_circuit(WIRE, ALWAYS), [()]), ([()], None))
        self.assertEqual(run_circuit(joined_circuit(WIRE, EITHER), [()]), ([], 0))
        self.assertEqual(pairing(EITHER, EITHER), [((), ())])
        self.assertIsNone(parting(ALWAYS, ALWAYS))

    def test_readings_that_no_bits_that_settle_complete(self):
        # Unlike for None alone; but neither settles for 0, nor for 1.
        ring = ((("gate", 0),), SAME)
        one = (1, (), (ring,), (("in", 0),))
        other = (1, (), (ring,), (("bit", 0),))
        self.assertEqual(pairing(one, other), [((), ())])
        # If they settle for 1 alone, the reading None counts, and 0 does not.
        ring = ((("gate", 0), ("in", 0)), OR)
        one = (1, (), (ring, ((("in", 0),), SAME)), (("gate", 1),))
        other = (1, (), (ring,), (("bit", 1),))
        self.assertIsNone(pairing(one, other))
        self.assertEqual(self.tells_apart(one, other), 1)
        other = (1, (), (ring, ((("in", 0), ("gate", 0)), AND)), (("gate", 1),))
        third = (1, (), (ring, ((("gate", 0), ("in", 0)), OR)), (("gate", 1),))
        self.assertEqual(pairing(other, third), [((), ())])

    def test_registers_that_nobody_reads(self):
        registers, gates = counter(3)
        one = (1, registers, gates, (("in", 0),))
        self.assertEqual(pairing(one, WIRE), [(held, ()) for held in plainly.all_bits(3)])
        self.assertEqual(len(pairing(one, one)), 8)
        self.assertIsNone(parting(one, WIRE))

    def too_many(self, most, function, *args):
        with self.assertRaises(TooMany) as caught:
            function(*args)
        self.assertEqual(caught.exception.most, most)

    def test_300_pairs_and_more(self):
        for last, right in ((298, True), (299, True), (300, False), (511, False)):
            registers, gates = counter(9, last)
            one = (0, registers, gates, ())
            empty = (0, (), (), ())
            if right:
                found = pairing(one, empty)
                self.assertEqual(len(found), last + 1)
                self.assertTrue(is_pairing(one, empty, found))
                self.assertIsNone(parting(one, empty))
            else:
                self.too_many(300, pairing, one, empty)
                self.too_many(300, parting, empty, one)
                # A pairing may be judged all the same.
                every = [(held, ()) for held in plainly.all_bits(9)]
                self.assertTrue(is_pairing(one, empty, every))

    def test_many_instants_ahead(self):
        # Told apart by a counter's last bit, when 2, 4, 8 .. instants are gone.
        for bits in range(1, 6):
            registers, gates = counter(bits)
            one = (0, registers, gates, (("reg", bits - 1),))
            self.assertEqual(self.tells_apart(one, (0, (), (), (("bit", 0),))), 2 ** (bits - 1) + 1)
        # A row in which inputs of many instants count.
        registers = tuple((0, ("in", 0) if at == 0 else ("gate", at - 1)) for at in range(5))
        gates = tuple(((("reg", at), ("in", 0)), (AND, (0, 1, 0, 0))[at % 2]) for at in range(5))
        one = (1, registers, gates, (("gate", 4),))
        self.assertEqual(self.tells_apart(one, (1, (), (), (("bit", 0),))), 6)

    def test_words_that_are_wanted_ahead(self):
        # A part that waits for a word of pairs of bits; only then it tells something that parts it.
        rng = random.Random(5)
        words = [word for many in (1, 2) for word in itertools.product(plainly.all_bits(2), repeat=many)]
        words += [tuple(tuple(rng.randint(0, 1) for _ in range(2)) for _ in range(rng.randint(3, 7))) for _ in range(30)]
        for word in words:
            registers, gates, last = lock(word)
            many = len(word) + 1
            both = len(gates)
            # What it tells in the end: a bit; the and of a bit; in or not in; it does not settle.
            nots = gates + (((("in", 0),), NOT), ((("in", 0), ("gate", both)), OR), ((last, ("gate", both + 1)), AND))
            ring = gates + (((last, ("gate", both)), AND),)
            ended = gates + (((("bit", 0), ("bit", 0)), AND),)
            alike = (2, registers, gates, (last,))
            for one, other in (((2, registers, gates, (last,)), (2, registers, gates, (("bit", 0),))),
                               ((2, registers, nots, (("gate", both + 2),)), alike),
                               ((2, registers, ring, (last,)), (2, registers, ended, (last,)))):
                self.assertIsNone(pairing(one, other))
                for row in ((one, other), (other, one)):
                    self.assertEqual(self.tells_apart(*row), many)

    def test_registers_of_frame_and_part(self):
        for more, right in ((0, True), (1, False)):
            registers, gates = counter(5)
            spare = tuple((0, ("bit", 0)) for _ in range(60 - 17 - 5 + more))
            one = (0, registers + spare, gates, (("reg", 4),))
            two = (0, (), (), (("bit", 0),))
            self.assertEqual(17 + len(one[1]) <= 60, right)
            if right:
                self.assertEqual(self.tells_apart(one, two), 17)
                self.assertEqual(self.tells_apart(two, one), 17)
            else:
                self.too_many(60, parting, one, two)
                self.too_many(60, parting, two, one)
                self.assertIsNone(pairing(one, two))
        full = (0, ((0, ("bit", 0)),) * 60, (), (("bit", 0),))
        self.too_many(60, parting, full, (0, (), (), (("bit", 1),)))
        self.assertIsNone(parting(full, full))

    def test_lists_near_pairings(self):
        rng = random.Random(4)
        told = {True: 0, False: 0}
        for row in by_sizes(PARTS):
            for one in rng.sample(row, min(len(row), 30)):
                other = near_part(rng, one)
                found = pairing(one, other) or [plainparts.at_first(one, other)]
                every = list(itertools.product(plainly.all_bits(len(one[1])), plainly.all_bits(len(other[1]))))
                things = [found, tuple(found), found[::-1], found + found[-1:], found[1:], found[:-1], [], every, [list(pair) for pair in found]]
                things += [sorted(set(found + [rng.choice(every)])) for _ in range(4)]
                things += [found[:at] + found[at + 1:] for at in range(len(found))]
                things += rng.sample(list(changed(found)), 12)
                for verdict, many in self.judges(lambda x: is_pairing(one, other, x),
                                                 lambda x: plainparts.is_pairing(one, other, x), things).items():
                    told[verdict] += many
        self.assertGreater(told[True], 300)
        self.assertGreater(told[False], 1000)
        self.judges(lambda x: is_pairing(HOLDS, HOLDS, x), lambda x: plainparts.is_pairing(HOLDS, HOLDS, x),
                    every_kind() + list(changed(pairing(HOLDS, HOLDS))))

    def test_four_inputs_and_eight_outputs(self):
        gates = tuple(((("in", at % 4), ("in", (at + 1) % 4)), AND) for at in range(8))
        one = (4, (), gates, tuple(("gate", at) for at in range(8)))
        other = (4, (), gates[:4], tuple(("gate", at % 4) for at in range(8)))
        self.assertEqual(pairing(one, other), [((), ())])
        self.assertTrue(is_pairing(one, other, [((), ())]))
        bent = other[:3] + (other[3][:7] + (("gate", 2),),)
        self.assertEqual(self.tells_apart(one, bent), 1)
        self.assertEqual(opened(one, (), (0, 1, 1, None)), (0, 1, None, 0) * 2)
        frame = (8, (), (), tuple(("in", at) for at in range(4)))
        self.assertEqual(len(joined_circuit(frame, one)[2]), 12)
        self.refuses(BadPart, opened, ((4, (), gates, one[3] + one[3][:1]), (), (0, 1, 1, None)))
        self.refuses(BadPart, opened, ((5, (), gates, one[3]), (), (0, 1, 1, None, 0)))

    def test_great_parts(self):
        one = (4, (), drawn.wires(1990), (("gate", 1989), ("in", 3)))
        other = (4, (), drawn.wires(3), (("gate", 2), ("in", 3)))
        self.assertEqual(pairing(one, other), [((), ())])
        self.assertEqual(self.tells_apart(one, (4, (), drawn.wires(3), (("gate", 2), ("in", 2)))), 1)

    def test_wrong_ones(self):
        for function, more in ((pairing, ()), (is_pairing, ([],)), (parting, ())):
            args = (HOLDS, HOLDS) + more
            self.wrong_values(function, args, 0, BadPart, lambda x: plainparts.part(x), least=100,
                              more=((5, (), (), ()), (0, (), (), (("bit", 0),) * 9)))
            for value in every_kind() + list(changed(HOLDS)):
                if not plainparts.part(value):
                    self.refuses(BadPart, function, (HOLDS, value) + more)
                elif (value[0], len(value[3])) != (1, 2):
                    self.refuses(Unlike, function, (HOLDS, value) + more)
                    self.refuses(Unlike, function, (value, HOLDS) + more)
            self.first_error(function, args, (BadPart, BadPart) + (None,) * len(more))


def later_part(what):
    """The part that tells the same an instant later, 0 in the first one."""
    inputs, registers, gates, outputs = what
    held = tuple((0, source) for source in outputs)
    return inputs, registers + held, gates, tuple(("reg", len(registers) + at) for at in range(len(outputs)))


def near_part(rng, what):
    """A part near this one, often one that does alike."""
    way = rng.randrange(6)
    inputs, registers, gates, outputs = what
    if way == 0:
        return (inputs, registers + ((0, rng.choice([("bit", 1), ("reg", len(registers))])),), gates, outputs)
    if way == 1:
        return (inputs, registers, gates + (((("bit", 1),), SAME),), outputs)
    if way == 2 and outputs:
        at = rng.randrange(len(outputs))
        told = outputs[:at] + (("gate", len(gates)),) + outputs[at + 1:]
        return (inputs, registers, gates + (((outputs[at],), SAME),), told)
    if way == 3 and outputs:
        at = rng.randrange(len(outputs))
        doubled = ((outputs[at], outputs[at]), rng.choice([AND, OR]))
        return (inputs, registers, gates + (doubled,), outputs[:at] + (("gate", len(gates)),) + outputs[at + 1:])
    if way == 4 and registers:
        at = rng.randrange(len(registers))
        row = (1 - registers[at][0], registers[at][1])
        return (inputs, registers[:at] + (row,) + registers[at + 1:], gates, outputs)
    if gates:
        at = rng.randrange(len(gates))
        table = list(gates[at][1])
        table[rng.randrange(len(table))] ^= 1
        return (inputs, registers, gates[:at] + ((gates[at][0], tuple(table)),) + gates[at + 1:], outputs)
    return what
