"""Parts of circuits, the frames around them, and parts that no frame tells apart."""

from restsure.cases import source_reading, sure_list
from restsure.circuits import MOST_GATES, MOST_REGISTERS, check_circuit, is_circuit
from restsure.errors import BadFrame, BadGiven, BadHeld, BadPart, TooMany, Unlike
from restsure.frames import Framing
from restsure.kinds import is_bits, is_readings, is_row, is_tuple_of
from restsure.manners import Manners
from restsure.meetings import Meeting, stands
from restsure.readings import instant_of

MOST_PART_INPUTS = 4
MOST_PART_OUTPUTS = 8
SAME = (0, 1)


def is_part(thing):
    """Whether thing, any value, is a part."""
    return is_circuit(thing) and thing[0] <= MOST_PART_INPUTS and len(thing[3]) <= MOST_PART_OUTPUTS


def check_part(part):
    """Raise BadPart unless part is one."""
    if not is_part(part):
        raise BadPart("not a circuit with at most 4 inputs and at most 8 outputs")


class Joining:
    """A frame and a part put together: where the sources of both are then."""

    def __init__(self, frame, part):
        self.frame = frame
        self.part = part
        self.inputs = frame[0] - len(part[3])
        self.outputs = len(frame[3]) - part[0]
        self.ways = len(frame[2])
        self.gates = self.ways + part[0]

    def of_part(self, source):
        """The source that stands for one of the part."""
        kind, at = source
        if kind == "in":
            return "gate", self.ways + at
        if kind == "reg":
            return "reg", len(self.frame[1]) + at
        return ("gate", self.gates + at) if kind == "gate" else source

    def of_frame(self, source):
        """The source that stands for one of the frame."""
        kind, at = source
        if kind == "in" and at >= self.inputs:
            return self.of_part(self.part[3][at - self.inputs])
        return source

    def circuit(self):
        """The joined circuit."""
        frame, part = self.frame, self.part
        registers = [(bit, self.of_frame(source)) for bit, source in frame[1]]
        registers.extend([(bit, self.of_part(source)) for bit, source in part[1]])
        gates = [(tuple([self.of_frame(source) for source in sources]), table) for sources, table in frame[2]]
        gates.extend([((self.of_frame(source),), SAME) for source in frame[3][self.outputs:]])
        gates.extend([(tuple([self.of_part(source) for source in sources]), table) for sources, table in part[2]])
        outputs = [self.of_frame(source) for source in frame[3][:self.outputs]]
        return self.inputs, tuple(registers), tuple(gates), tuple(outputs)


def joined_circuit(frame, part):
    """The circuit in which the part stands within the frame."""
    check_circuit(frame)
    check_part(part)
    if frame[0] < len(part[3]) or len(frame[3]) < part[0]:
        raise BadFrame("not a frame for the part")
    if len(frame[2]) + part[0] + len(part[2]) > MOST_GATES:
        raise TooMany(MOST_GATES)
    if len(frame[1]) + len(part[1]) > MOST_REGISTERS:
        raise TooMany(MOST_REGISTERS)
    return Joining(frame, part).circuit()


def check_held(part, held):
    """Raise BadPart or BadHeld unless held are bits of the registers of the part."""
    check_part(part)
    if not is_bits(held, len(part[1])):
        raise BadHeld("not a tuple of bits of the registers")


def opened(part, held, given):
    """The tuple of the readings of the outputs by readings of the inputs."""
    check_held(part, held)
    if not is_readings(given, part[0]):
        raise BadGiven("not a tuple of readings of the inputs")
    gates = sure_list(part, given, held)
    return tuple([source_reading(source, given, held, gates) for source in part[3]])


def settled(part, held, given):
    """The outputs and what is held next by bits of the inputs; None unless all gates are sure."""
    check_held(part, held)
    if not is_bits(given, part[0]):
        raise BadGiven("not a tuple of bits of the inputs")
    return instant_of(part, given, held)


def check_parts(one, other):
    """Raise BadPart or Unlike unless both are parts with as many inputs and as many outputs."""
    check_part(one)
    check_part(other)
    if one[0] != other[0] or len(one[3]) != len(other[3]):
        raise Unlike("not as many inputs and outputs")


def first_pair(one, other):
    """The pair of what both hold at first."""
    return tuple([bit for bit, _ in one[1]]), tuple([bit for bit, _ in other[1]])


def meeting_of(one, other):
    """The meeting of two parts; BadPart, Unlike, TooMany."""
    check_parts(one, other)
    return Meeting(Manners(one), Manners(other), first_pair(one, other))


def pairing(one, other):
    """The least pairing of two parts, None unless they do alike."""
    meeting = meeting_of(one, other)
    if meeting.misfit is not None:
        return None
    return sorted(meeting.pairs)


def is_held_pair(one, other, thing):
    """Whether thing, any value, is a pair of what the two parts may hold."""
    return is_tuple_of(thing, 2) and is_bits(thing[0], len(one[1])) and is_bits(thing[1], len(other[1]))


def is_pairing(one, other, thing):
    """Whether thing, any value, is a pairing of the two parts."""
    check_parts(one, other)
    if not is_row(thing) or not all(is_held_pair(one, other, pair) for pair in thing):
        return False
    pairs = {pair: True for pair in thing}
    if list(thing) != sorted(pairs) or first_pair(one, other) not in pairs:
        return False
    return stands(Manners(one), Manners(other), pairs)


def parting(one, other):
    """A frame that tells two parts apart, and in how many instants; None if they do alike."""
    meeting = meeting_of(one, other)
    if meeting.misfit is None:
        return None
    row = meeting.row_to(meeting.misfit)
    many = len(row) + 1
    if many + max(len(one[1]), len(other[1])) > MOST_REGISTERS:
        raise TooMany(MOST_REGISTERS)
    framing = Framing(len(one[3]), row)
    last = framing.last_sources(meeting.one, meeting.other, meeting.pairs[meeting.misfit])
    return framing.circuit(last), many
