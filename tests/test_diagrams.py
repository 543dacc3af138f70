import itertools
import random

from restsure.diagrams import diagram_of, end_at, is_reduced, parted_at
from restsure.errors import BadCircuit, BadDiagram, BadGiven, BadHeld, BadOrder, TooMany
from restsure.readings import instant
from restsure.wiring import circuit_of
from tests import drawn, drawnprograms, plainlines, plainly
from tests.contract import Contract
from tests.drawn import AND, OR, SAME
from tests.test_lines import SMALL
from tests.values import changed, every_kind

DRAWN = drawn.lots_of(160) + drawn.lots_of(60, most_gates=6, most_registers=3) + drawn.BY_HAND
ORDER = (("reg", 0), ("in", 0))
# Point 64.
LEANS = (1, (), (((("gate", 0), ("in", 0)), OR),), (("gate", 0),))


def sources_of(what):
    return [("in", at) for at in range(what[0])] + [("reg", at) for at in range(len(what[1]))]


def orders(what):
    return list(itertools.permutations(sources_of(what)))


def wide(inputs, registers):
    """A circuit of so many inputs and registers that tells the and of all of them."""
    sources = [("in", at) for at in range(inputs)] + [("reg", at) for at in range(registers)]
    gates = [((source, ("gate", at - 1) if at else ("bit", 1)), AND) for at, source in enumerate(sources)]
    return inputs, tuple((0, source) for source in sources[inputs:]), tuple(gates), (("gate", len(gates) - 1),)


class Diagrams(Contract):
    def test_drawn(self):
        rng = random.Random(1)
        sizes = set()
        for what in DRAWN:
            every = orders(what)
            for order in rng.sample(every, min(len(every), 4)):
                told = self.kept(diagram_of, ("circuit", "order"), (what, order))
                self.assertEqual(repr(told), repr(plainlines.diagram(what, order)))
                self.assertIs(self.kept(is_reduced, ("circuit", "order", "thing"), (what, order, told)), True)
                sizes.add(len(told))
                for given, held in plainlines.all_cases(what):
                    names = ("circuit", "order", "diagram", "given", "held")
                    node = self.kept(end_at, names, (what, order, told, given, held))
                    self.assertEqual(repr(node), repr(plainlines.end(what, given, held)))
                    both = instant(what, given, held)
                    self.assertEqual(node, ("unsure",) if both is None else ("end",) + both)
        self.assertGreaterEqual(max(sizes), 12)

    def test_by_hand(self):
        wanted = (("ask", ("in", 0), 1, 2), ("unsure",), ("end", (1,), ()))
        self.assertEqual(diagram_of(LEANS, (("in", 0),)), wanted)
        self.assertEqual(diagram_of(drawn.EMPTY, ()), (("end", (), ()),))
        self.assertEqual(diagram_of((0, (), (((("gate", 0),), SAME),), ()), ()), (("unsure",),))
        self.assertEqual(diagram_of((1, (), (), (("in", 0), ("bit", 1))), (("in", 0),)),
                         (("ask", ("in", 0), 1, 2), ("end", (0, 1), ()), ("end", (1, 1), ())))
        # What lies behind low, all of it, ahead of what lies behind high.
        both = (2, (), (((("in", 0), ("in", 1)), (0, 1, 1, 0)),), (("gate", 0),))
        self.assertEqual(diagram_of(both, (("in", 1), ("in", 0))),
                         (("ask", ("in", 1), 1, 4), ("ask", ("in", 0), 2, 3), ("end", (0,), ()), ("end", (1,), ()),
                          ("ask", ("in", 0), 3, 2)))
        # What is the same everywhere is asked of nothing.
        self.assertEqual(diagram_of(wide(0, 0)[:3] + ((),), ()), (("end", (), ()),))

    def test_equal_for_one_order_exactly_if_they_do_the_same(self):
        rng = random.Random(2)
        lots = {}
        for what in drawn.lots_of(700, most_gates=2, most_sources=2, most_registers=1, most_inputs=1):
            lots.setdefault((what[0], len(what[1]), len(what[3])), []).append(what)
        told = {True: 0, False: 0}
        for row in lots.values():
            for _ in range(60):
                one, other = rng.choice(row), rng.choice(row)
                wanted = [plainlines.end(one, *case) == plainlines.end(other, *case) for case in plainlines.all_cases(one)]
                for order in orders(one):
                    self.assertIs(diagram_of(one, order) == diagram_of(other, order), all(wanted))
                found = self.kept(parted_at, ("one", "other"), (one, other))
                if all(wanted):
                    self.assertIsNone(found)
                else:
                    self.assertFalse(wanted[plainlines.all_cases(one).index(found)])
                told[all(wanted)] += 1
        self.assertGreater(min(told.values()), 100)

    def test_no_diagram_has_fewer_nodes(self):
        # All diagrams of fewer nodes, for few sources.
        tried = 0
        for what in drawn.lots_of(60, most_gates=2, most_registers=0, most_inputs=2):
            for order in orders(what):
                told = diagram_of(what, order)
                ends = sorted({plainlines.end(what, *case) for case in plainlines.all_cases(what)})
                for many in range(1, min(len(told), 5)):
                    self.assertFalse(any(self.does(what, order, nodes) for nodes in all_nodes(order, ends, many)))
                    tried += 1
        self.assertGreater(tried, 30)

    def does(self, what, order, nodes):
        """Whether these nodes, whose asks rise, come to what the circuit does."""
        for node in nodes:
            if node[0] == "ask" and any(nodes[near][0] == "ask" and order.index(nodes[near][1]) <= order.index(node[1])
                                        for near in node[2:]):
                return False
        return all(walk(nodes, *case) == plainlines.end(what, *case) for case in plainlines.all_cases(what))

    def test_twelve_sources_and_thirteen(self):
        what = wide(8, 4)
        order = tuple(reversed(sources_of(what)))
        told = diagram_of(what, order)
        # An end for each row of what is held next, and for the and of all.
        self.assertEqual(len(set(node[1:] for node in told if node[0] == "end")), 17)
        self.assertTrue(is_reduced(what, order, told))
        for given, held in (((1,) * 8, (1,) * 4), ((1,) * 8, (1, 1, 0, 1)), ((0,) + (1,) * 7, (1,) * 4)):
            self.assertEqual(end_at(what, order, told, given, held), ("end",) + instant(what, given, held))
        self.assertIsNone(parted_at(what, what))
        other = what[:2] + (what[2][:-1] + ((what[2][-1][0], (0, 0, 0, 0)),),) + what[3:]
        self.assertEqual(parted_at(what, other), ((1,) * 8, (1,) * 4))
        more = wide(8, 5)
        for function, args in ((diagram_of, (more, tuple(sources_of(more)))), (parted_at, (more, more))):
            with self.assertRaises(TooMany) as caught:
                function(*args)
            self.assertEqual(caught.exception.most, 12)
        self.refuses(BadOrder, diagram_of, (more, tuple(sources_of(more))[:-1]))
        self.refuses(BadOrder, diagram_of, (what, order + order[:1]))

    def test_68_sources(self):
        what = wide(8, 60)
        order = tuple(sources_of(what))
        end = ("end", (0,), (0,) * 60)
        other = ("end", (1,), (0,) * 60)
        # A ladder through all of them.
        rows = [("ask", order[0], 1, 2), end] + [("ask", order[at], 1, at + 2) for at in range(1, 68)] + [other]
        self.assertTrue(is_reduced(what, order, tuple(rows)))
        self.assertEqual(end_at(what, order, tuple(rows), (1,) * 8, (1,) * 60), other)
        self.assertEqual(end_at(what, order, tuple(rows), (1,) * 8, (1,) * 59 + (0,)), end)
        self.assertFalse(is_reduced(what, order[1:] + order[:1], tuple(rows)))
        self.assertTrue(is_reduced(what, order, (end,)))

    def test_great_circuits(self):
        what = (1, (), drawn.wires(1999) + (((("gate", 1998), ("in", 0)), AND),), (("gate", 1999),))
        self.assertEqual(len(diagram_of(what, (("in", 0),))), 3)
        other = (1, (), (), (("in", 0),))
        self.assertIsNone(parted_at(what, other))
        self.assertEqual(parted_at(what, (1, (), (), (("bit", 1),))), ((0,), ()))

    def test_program_circuit_and_diagram_tell_the_same(self):
        rng = random.Random(4)
        tried = 0
        for prog in drawnprograms.small_inputs(60):
            what = circuit_of(prog)
            order = sources_of(what)
            rng.shuffle(order)
            if len(order) > 9:
                continue
            told = diagram_of(what, tuple(order))
            held = tuple(bit for bit, _ in what[1])
            for _ in range(5):
                given = tuple(rng.randint(0, 1) for _ in prog[0])
                node = end_at(what, tuple(order), told, given, held)
                both = instant(what, given, held)
                self.assertEqual(node, ("unsure",) if both is None else ("end",) + both)
                if both is None:
                    break
                held = both[1]
                tried += 1
        self.assertGreater(tried, 100)


def walk(nodes, given, held):
    node = nodes[0]
    while node[0] == "ask":
        node = nodes[node[2 + {"in": given, "reg": held}[node[1][0]][node[1][1]]]]
    return node


def all_nodes(order, ends, many):
    """All tuples of so many nodes of asks and of these ends."""
    asks = [("ask", source, low, high) for source in order for low in range(many) for high in range(many)]
    return itertools.product(asks + ends, repeat=many)


class Reduced(Contract):
    def judged(self, what, order, things):
        return self.judges(lambda thing: is_reduced(what, order, thing),
                           lambda thing: plainlines.reduced(what, order, thing), things)

    def test_near_ones(self):
        rng = random.Random(5)
        told = {True: 0, False: 0}
        for what in DRAWN:
            order = tuple(rng.sample(sources_of(what), len(sources_of(what))))
            right = diagram_of(what, order)
            things = near(right) + list(changed(right))[:200 if len(right) < 5 else 0] + [list(right)]
            for verdict, many in self.judged(what, order, rng.sample(things, min(len(things), 150))).items():
                told[verdict] += many
            for other in orders(what)[:6]:
                self.judged(what, other, [right])
        self.assertGreater(told[False], 4000)
        self.assertGreater(told[True], 300)

    def test_by_hand(self):
        what, order = (2, (), (), (("in", 0),)), (("in", 0), ("in", 1))
        no, yes, loose = ("end", (0,), ()), ("end", (1,), ()), ("unsure",)
        zero, one = order
        right = [(no,), (loose,), (("ask", zero, 1, 2), no, yes), (("ask", one, 1, 2), yes, loose),
                 (("ask", zero, 1, 3), ("ask", one, 2, 3), no, yes), (("ask", zero, 1, 2), no, ("ask", one, 1, 3), loose)]
        wrong = [(), (no, yes), (("ask", zero, 1, 1), no), (("ask", zero, 2, 1), yes, no), (("ask", zero, 0, 1), no),
                 (("ask", one, 1, 3), ("ask", zero, 2, 3), no, yes), (("ask", zero, 1, 2), no, no),
                 (("ask", zero, 1, 2), no, ("ask", zero, 1, 3), yes), (("ask", zero, 1, 2), no, yes, loose),
                 (("ask", zero, 1, 2), no), (("ask", zero, 1, -1), no, yes), (("ask", zero, True, 2), no, yes),
                 (("ask", ("in", 2), 1, 2), no, yes), (("ask", ("reg", 0), 1, 2), no, yes), (("ask", ("bit", 0), 1, 2), no, yes),
                 (("ask", ("in", False), 1, 2), no, yes), (("ask", ["in", 0], 1, 2), no, yes), (("ask", zero, 1, 2), no, ("end", (1,), (0,))),
                 (("ask", zero, 1, 2), no, ("end", (1, 1), ())), (("ask", zero, 1, 2), no, ("end", (True,), ())),
                 (("ask", zero, 1, 2), no, ("end", [1], ())), (("ask", zero, 1, 2), no, ("unsure", 0)), [no], ("unsure",),
                 (("ask", zero, 1, 2), ("ask", one, 3, 4), ("ask", one, 3, 4), no, yes)]
        for thing in right:
            self.assertIs(is_reduced(what, order, thing), True, thing)
        for thing in wrong:
            self.assertIs(is_reduced(what, order, thing), False, thing)
            self.refuses(BadDiagram, end_at, (what, order, thing, (0, 0), ()))
        self.judged(what, order, right + wrong + every_kind())
        # A way that goes round for ever.
        ring = (1, ((0, ("bit", 0)),), (), ())
        self.assertFalse(is_reduced(ring, ORDER, (("ask", ("reg", 0), 1, 2), ("ask", ("in", 0), 0, 2), ("unsure",))))

    def test_a_long_one(self):
        what = (8, (), (), ())
        order = tuple(sources_of(what))
        self.assertFalse(is_reduced(what, order, (("unsure",),) * 5000))


def near(right):
    """Diagrams with nodes exchanged, told twice, left out, bent."""
    found = [right, right + right[-1:], right + (("unsure",),), right[::-1]]
    for at, node in enumerate(right):
        found += [right[:at] + right[at + 1:], right[:at] + (node,) + right[at:]]
        found += [right[:at] + right[other:other + 1] + right[at + 1:other] + (node,) + right[other + 1:]
                  for other in range(at + 1, min(len(right), at + 5))]
        if node[0] == "ask":
            for low, high in ((node[3], node[2]), (node[2], node[2]), (node[2] + 1, node[3]), (node[2], node[3] - 1), (0, node[3]),
                              (node[2], len(right)), (bool(node[2]), node[3])):
                found.append(right[:at] + (("ask", node[1], low, high),) + right[at + 1:])
            for source in (("in", 0), ("reg", 0), ("in", 9), ("gate", 0)):
                found.append(right[:at] + (("ask", source, node[2], node[3]),) + right[at + 1:])
        else:
            for other in (("unsure",), ("end", (), ()), ("end", (0,), ()), ("end", (1, 1), (0,)), ("asks",)):
                found.append(right[:at] + (other,) + right[at + 1:])
    return found


class Wrong(Contract):
    def test_orders(self):
        args = (SMALL, ORDER)
        for function, more in ((diagram_of, ()), (is_reduced, (("unsure",),)), (end_at, ((("unsure",),), (0,), (0,)))):
            self.wrong_values(function, args + more, 0, BadCircuit, plainly.circuit, least=100)
            self.wrong_values(function, args + more, 1, BadOrder, lambda x: plainlines.order(SMALL, x), least=100,
                              more=((("in", 0), ("reg", False)), (("in", 0), ["reg", 0]), (("in", 0), ("in", 0)), (("in", 0), ("reg", 1))))
        self.first_error(diagram_of, args, (BadCircuit, BadOrder))
        self.first_error(is_reduced, args + ("x",), (BadCircuit, BadOrder, None))

    def test_end_at(self):
        args = (SMALL, ORDER, diagram_of(SMALL, ORDER), (1,), (0,))
        self.wrong_values(end_at, args, 2, BadDiagram, lambda x: plainlines.reduced(SMALL, ORDER, x), least=100)
        self.wrong_values(end_at, args, 3, BadGiven, lambda x: plainly.bits(x, 1), least=100, more=((None,),))
        self.wrong_values(end_at, args, 4, BadHeld, lambda x: plainly.bits(x, 1), least=100, more=((None,),))
        self.first_error(end_at, args, (BadCircuit, BadOrder, BadDiagram, BadGiven, BadHeld))

    def test_parted_at(self):
        args = (SMALL, SMALL)
        self.wrong_values(parted_at, args, 0, BadCircuit, plainly.circuit, least=100)

        def fits(x):
            return plainly.circuit(x) and (x[0], len(x[1]), len(x[3])) == (1, 1, 1)
        self.wrong_values(parted_at, args, 1, BadCircuit, fits, least=100)
        self.first_error(parted_at, args, (BadCircuit, BadCircuit))
        for other in ((2,) + SMALL[1:], SMALL[:1] + (SMALL[1] * 2,) + SMALL[2:], SMALL[:3] + (SMALL[3] * 2,)):
            self.refuses(BadCircuit, parted_at, (SMALL, other))
            self.refuses(BadCircuit, parted_at, (other, SMALL))
        self.refuses(BadCircuit, parted_at, (wide(8, 5), wide(8, 6)))
