"""Diagrams: what a circuit does, asked source by source in one order."""

from restsure.circuits import check_circuit
from restsure.crowds import crowd_of
from restsure.errors import BadCircuit, BadDiagram, BadGiven, BadHeld, BadOrder, TooMany
from restsure.kinds import bit_rows, is_below, is_bits, is_number, is_tuple_of

MOST_ASKED = 12
UNSURE = ("unsure",)


def outer_sources(circuit):
    """The list of the inputs and registers, as sources."""
    return [("in", at) for at in range(circuit[0])] + [("reg", at) for at in range(len(circuit[1]))]


def is_plain_source(thing):
    """Whether thing, any value, is a pair of a string and a number."""
    return is_tuple_of(thing, 2) and isinstance(thing[0], str) and is_number(thing[1])


def check_order(circuit, order):
    """Raise BadCircuit, or BadOrder unless each input and register stands once in order."""
    check_circuit(circuit)
    if not isinstance(order, tuple) or not all(is_plain_source(source) for source in order):
        raise BadOrder("not a tuple of sources")
    if sorted(order) != outer_sources(circuit):
        raise BadOrder("not an order of the inputs and registers")


def ends_of(circuit, cases):
    """The list, case by case, of the nodes at which a diagram of the circuit ends."""
    crowd = crowd_of(circuit, cases)
    gates, _ = crowd.settle()
    loose = crowd.unpacked(tuple([(mask, 0) for mask in crowd.unsettled(gates)]))
    outputs = [crowd.unpacked(crowd.told(source, gates)) for source in circuit[3]]
    held = [crowd.unpacked(crowd.told(source, gates)) for _, source in circuit[1]]
    told = []
    for at, is_loose in enumerate(loose):
        if is_loose:
            told.append(UNSURE)
        else:
            told.append(("end", tuple([row[at] for row in outputs]), tuple([row[at] for row in held])))
    return told


def case_of(circuit, order, bits):
    """The case (given, held) in which the sources of order have these bits."""
    worth = {source: bit for source, bit in zip(order, bits)}
    told = [worth[source] for source in outer_sources(circuit)]
    return tuple(told[:circuit[0]]), tuple(told[circuit[0]:])


class Nodes:
    """Nodes by numbers, no two of them equal; those of asks have numbers that were made before."""

    def __init__(self):
        self.rows = []
        self.numbers = {}

    def number(self, node):
        """The number of a node, a new one for a new node."""
        if node not in self.numbers:
            self.numbers[node] = len(self.rows)
            self.rows.append(node)
        return self.numbers[node]

    def ask(self, source, low, high):
        """The number of what asks this source, or of both ends if they are the same."""
        return low if low == high else self.number(("ask", source, low, high))


def met_first(nodes, start):
    """The list of the nodes that are met from this one on, low ones ahead of high ones."""
    seen = set()
    told = []
    stack = [start]
    while stack:
        at = stack.pop()
        if at in seen:
            continue
        seen.add(at)
        told.append(at)
        if nodes[at][0] == "ask":
            stack.append(nodes[at][3])
            stack.append(nodes[at][2])
    return told


def renumbered(nodes, start):
    """The diagram of what is met from this node on."""
    met = met_first(nodes, start)
    places = {at: place for place, at in enumerate(met)}
    told = []
    for at in met:
        node = nodes[at]
        if node[0] == "ask":
            node = ("ask", node[1], places[node[2]], places[node[3]])
        told.append(node)
    return tuple(told)


def diagram_of(circuit, order):
    """The reduced diagram of what the circuit does."""
    check_order(circuit, order)
    if len(order) > MOST_ASKED:
        raise TooMany(MOST_ASKED)
    cases = [case_of(circuit, order, bits) for bits in bit_rows(len(order))]
    nodes = Nodes()
    row = [nodes.number(end) for end in ends_of(circuit, cases)]
    for source in reversed(list(order)):
        row = [nodes.ask(source, row[at], row[at + 1]) for at in range(0, len(row), 2)]
    return renumbered(nodes.rows, row[0])


def is_node(circuit, thing, many):
    """Whether thing, any value, is built as a node of a diagram of so many."""
    if is_tuple_of(thing, 1):
        return isinstance(thing[0], str) and thing == UNSURE
    if is_tuple_of(thing, 3):
        if not isinstance(thing[0], str) or thing[0] != "end":
            return False
        return is_bits(thing[1], len(circuit[3])) and is_bits(thing[2], len(circuit[1]))
    if not is_tuple_of(thing, 4) or not isinstance(thing[0], str) or thing[0] != "ask":
        return False
    return is_plain_source(thing[1]) and is_below(thing[2], many) and is_below(thing[3], many)


def rises(order, nodes):
    """Whether each ask is of a source of order, of an earlier one than the asks to which it leads."""
    ranks = {source: rank for rank, source in enumerate(order)}
    for node in nodes:
        if node[0] != "ask":
            continue
        if node[1] not in ranks or node[2] == node[3]:
            return False
        for near in node[2:]:
            further = nodes[near]
            if further[0] == "ask" and ranks.get(further[1], -1) <= ranks[node[1]]:
                return False
    return True


def is_diagram(circuit, order, thing):
    """Whether thing, any value, is a reduced diagram for what is known to be an order."""
    if not isinstance(thing, tuple) or not thing:
        return False
    if not all(is_node(circuit, node, len(thing)) for node in thing):
        return False
    if len(set(thing)) < len(thing) or not rises(order, thing):
        return False
    return met_first(thing, 0) == list(range(len(thing)))


def is_reduced(circuit, order, thing):
    """Whether thing, any value, is a reduced diagram for the order."""
    check_order(circuit, order)
    return is_diagram(circuit, order, thing)


def end_at(circuit, order, diagram, given, held):
    """The node to which the diagram comes."""
    check_order(circuit, order)
    if not is_diagram(circuit, order, diagram):
        raise BadDiagram("not a reduced diagram for the order")
    if not is_bits(given, circuit[0]):
        raise BadGiven("not a tuple of bits of the inputs")
    if not is_bits(held, len(circuit[1])):
        raise BadHeld("not a tuple of bits of the registers")
    worth = {"in": given, "reg": held}
    node = diagram[0]
    while node[0] == "ask":
        kind, at = node[1]
        node = diagram[node[2 + worth[kind][at]]]
    return node


def parted_at(one, other):
    """The first case (given, held) at which both do not do the same, None if there is none."""
    check_circuit(one)
    check_circuit(other)
    if [one[0], len(one[1]), len(one[3])] != [other[0], len(other[1]), len(other[3])]:
        raise BadCircuit("not as many inputs, registers and outputs")
    many = len(outer_sources(one))
    if many > MOST_ASKED:
        raise TooMany(MOST_ASKED)
    cases = [(bits[:one[0]], bits[one[0]:]) for bits in bit_rows(many)]
    for case, end, otherwise in zip(cases, ends_of(one, cases), ends_of(other, cases)):
        if end != otherwise:
            return case
    return None
