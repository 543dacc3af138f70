"""The circuit of a program, which is whole in just those instants that are sure."""

from restsure.circuits import MOST_REGISTERS
from restsure.errors import TooMany
from restsure.makers import ONE, ZERO, Maker
from restsure.plans import FORMS, following_codes, freed_codes, greater_codes, own_code
from restsure.plans import statement_plan
from restsure.statements import check_program

# On from the second instant on: what begins has it at 0.
ON = ("reg", 0)
NOT = (1, 0)
AND_NOT = (0, 1, 0, 0)
# on, the other one holds, this one holds: this one has ended earlier.
GONE = (0, 0, 0, 1, 0, 0, 0, 0)
# A code of this one, on, held: the whole ends, or has ended.
ENDED = (0, 1, 1, 1, 0, 1, 0, 1)
# kill, go, stay, the register: what a pause holds next.
KEEP = (0, 0, 1, 0, 0, 0, 1, 0, 0, 0, 1, 0, 1, 0, 1, 0)
# A lower code of the one, this code of it, and of the other one likewise: this code of both.
GREATER = (0, 0, 0, 0, 0, 0, 1, 1, 0, 1, 1, 1, 0, 1, 1, 1)


class Coming:
    """What comes to a statement: go, on, stay, kill, and the signals by their names."""

    def __init__(self, go, on, stay, kill, scope):
        self.go = go
        self.on = on
        self.stay = stay
        self.kill = kill
        self.scope = scope

    def begun_by(self, go):
        """The same, but for what begins it."""
        return Coming(go, self.on, self.stay, self.kill, self.scope)


class Signal:
    """The source that has a signal's bit, and the sources that emit it."""

    def __init__(self, source):
        self.source = source
        self.feeds = []


def pause_counts(plan):
    """The list, by statement, of how many pauses stand in it, the bodies of loops written twice."""
    counts = [0] * len(plan.parts)
    for at in reversed(range(len(plan.parts))):
        kind = plan.parts[at][0]
        many = sum([counts[kid] for kid in plan.kids[at]])
        if kind == "pause":
            many = 1
        counts[at] = many * 2 if kind == "loop" else many
    return counts


def wire_masks(plan, pauses):
    """The list, by statement, of the codes that it may have when it begins or goes on."""
    masks = [0] * len(plan.parts)
    for at in reversed(range(len(plan.parts))):
        masks[at] = wire_mask(plan, pauses, masks, at)
    return masks


def wire_mask(plan, pauses, masks, at):
    """The codes of one statement by those of the ones directly in it."""
    kind = plan.parts[at][0]
    kids = plan.kids[at]
    if not kids:
        # A pause that goes on ends.
        return 3 if kind == "pause" else 1 << own_code(plan.parts[at])
    one = masks[kids[0]]
    if kind == "if":
        return one | masks[kids[1]]
    if kind == "seq":
        return following_codes(one, masks[kids[1]])
    if kind == "par":
        other = masks[kids[1]]
        codes = greater_codes(one, other)
        # One of both alone may go on when the other one has ended.
        if one & 1 and pauses[kids[1]]:
            codes = codes | other
        if other & 1 and pauses[kids[0]]:
            codes = codes | one
        return codes
    if kind == "loop":
        return one & ~1
    if kind == "suspend" and pauses[kids[0]]:
        return one | 2
    return freed_codes(one) if kind == "trap" else one


class Wiring:
    """The gates and registers of statements, made one statement behind the other.

    Each statement is wired for the number of its first register; following are the sources of
    the next bits of all registers.
    """

    def __init__(self, plan):
        self.plan = plan
        self.maker = Maker()
        self.pauses = pause_counts(plan)
        self.masks = wire_masks(plan, self.pauses)
        self.kept_held = {}
        self.following = {}

    def placed(self, at, first):
        """The pairs (statement, its first register) directly in one, without those never begun."""
        kids = self.plan.kids[at]
        kind = self.plan.parts[at][0]
        told = [(kids[0], first)]
        behind = first + self.pauses[kids[0]]
        if kind == "loop":
            kids = kids + kids
        if len(kids) == 2 and (kind in ("if", "par") or self.masks[kids[0]] & 1):
            told.append((kids[1], behind))
        return told

    def held(self, at, first):
        """What is 1 exactly if a pause in the statement holds."""
        key = (at, first)
        if key not in self.kept_held:
            self.kept_held[key] = self.held_anew(at, first)
        return self.kept_held[key]

    def held_anew(self, at, first):
        """The source of held, made of those of the statements directly in this one."""
        if not self.pauses[at]:
            return ZERO
        if not self.plan.kids[at]:
            return ("reg", first)
        return self.maker.any_of([self.held(kid, place) for kid, place in self.placed(at, first)])

    def wire(self, at, coming, first):
        """The dict from codes to their sources, without those that it never has."""
        part = self.plan.parts[at]
        kind = part[0]
        if coming.go == ZERO:
            # What never begins never holds a pause either.
            return {}
        if kind == "pause":
            return self.wire_pause(coming, first)
        if kind == "emit":
            coming.scope[part[1]].feeds.append(coming.go)
        if FORMS[kind] in ("", "s", "k"):
            return {own_code(part): coming.go}
        if kind == "if":
            return self.wire_if(at, coming, first)
        if kind == "seq":
            return self.wire_seq(at, coming, first)
        if kind == "par":
            return self.wire_par(at, coming, first)
        if kind == "loop":
            return self.wire_loop(at, coming, first)
        if kind == "suspend":
            return self.wire_suspend(at, coming, first)
        if kind == "trap":
            return self.wire_trap(at, coming, first)
        return self.wire_local(at, coming, first)

    def wire_pause(self, coming, first):
        """A register, and code 0 where it held."""
        holds = ("reg", first)
        sources = (coming.kill, coming.go, coming.stay, holds)
        if coming.kill == ZERO and coming.stay == ZERO:
            self.following[first] = coming.go
        else:
            self.following[first] = self.maker.gate(sources, KEEP)
        if coming.on == ON:
            # No register of a pause holds before on does.
            return {0: holds, 1: coming.go}
        return {0: self.maker.all_of([coming.on, holds]), 1: coming.go}

    def either(self, one, other):
        """The codes of two of which at most one is run."""
        told = dict(one)
        for code, source in other.items():
            told[code] = self.maker.any_of([told.get(code, ZERO), source])
        return told

    def wire_if(self, at, coming, first):
        """go and the signal, or go and not it."""
        asked = (coming.go, coming.scope[self.plan.parts[at][1]].source)
        one, other = self.placed(at, first)
        yes = self.wire(one[0], coming.begun_by(self.maker.all_of(asked)), one[1])
        no = self.wire(other[0], coming.begun_by(self.maker.gate(asked, AND_NOT)), other[1])
        return self.either(yes, no)

    def wire_seq(self, at, coming, first):
        """The second one begins where the first one ends."""
        row = self.placed(at, first)
        codes = self.wire(row[0][0], coming, row[0][1])
        ends = codes.pop(0, ZERO)
        if len(row) == 1:
            return codes
        return self.either(codes, self.wire(row[1][0], coming.begun_by(ends), row[1][1]))

    def wire_loop(self, at, coming, first):
        """The body twice, each one begun where the other one ends."""
        row = self.placed(at, first)
        if len(row) == 1:
            return self.wire(row[0][0], coming, row[0][1])
        go = self.maker.later()
        one = self.wire(row[0][0], coming.begun_by(go), row[0][1])
        other = self.wire(row[1][0], coming.begun_by(one.pop(0, ZERO)), row[1][1])
        self.maker.settle_any(go, [coming.go, other.pop(0, ZERO)])
        return self.either(one, other)

    def wire_suspend(self, at, coming, first):
        """What is held stays where it is while the signal is there."""
        kid = self.plan.kids[at][0]
        if not self.pauses[kid]:
            return self.wire(kid, coming, first)
        signal = coming.scope[self.plan.parts[at][1]].source
        maker = self.maker
        holds = maker.all_of([coming.on, self.held(kid, first), signal])
        on = maker.gate((coming.on, signal), AND_NOT)
        stay = maker.any_of([coming.stay, holds])
        codes = self.wire(kid, Coming(coming.go, on, stay, coming.kill, coming.scope), first)
        codes[1] = maker.any_of([codes.get(1, ZERO), holds])
        return codes

    def wire_trap(self, at, coming, first):
        """Code 2 ends it, and all pauses in it."""
        kid = self.plan.kids[at][0]
        caught = self.pauses[kid] > 0 and self.masks[kid] & 4
        kill = self.maker.later() if caught else coming.kill
        codes = self.wire(kid, Coming(coming.go, coming.on, coming.stay, kill, coming.scope), first)
        leaves = codes.pop(2, ZERO)
        if caught:
            self.maker.settle_any(kill, [coming.kill, leaves])
        told = {code - 1 if code > 2 else code: source for code, source in codes.items()}
        if leaves != ZERO:
            told[0] = self.maker.any_of([told.get(0, ZERO), leaves])
        return told

    def wire_local(self, at, coming, first):
        """What emits the signal in it is the signal."""
        signal = Signal(self.maker.later())
        scope = dict(coming.scope)
        scope[self.plan.parts[at][1]] = signal
        inner = Coming(coming.go, coming.on, coming.stay, coming.kill, scope)
        codes = self.wire(self.plan.kids[at][0], inner, first)
        self.maker.settle_any(signal.source, signal.feeds)
        return codes

    def wire_par(self, at, coming, first):
        """The greater one of both codes."""
        one, other = self.placed(at, first)
        gone_one = self.gone(coming, one, other)
        gone_other = self.gone(coming, other, one)
        codes = self.wire(one[0], coming, one[1])
        others = self.wire(other[0], coming, other[1])
        return self.greater(codes, others, gone_one, gone_other)

    def gone(self, coming, one, other):
        """What is 1 exactly if the one has ended earlier than the other, which goes on."""
        # Where there is no pause in the one it has ended whenever the other one goes on.
        if not self.masks[one[0]] & 1 or not self.pauses[other[0]]:
            return ZERO
        own = self.held(one[0], one[1])
        its = self.held(other[0], other[1])
        if own == ZERO:
            return self.maker.all_of([coming.on, its])
        return self.maker.gate((coming.on, its, own), GONE)

    def greater(self, one, other, low_one, low_other):
        """The codes of a par; low_one is 1 where the one has a code below all these."""
        maker = self.maker
        told = {}
        for code in sorted(set(list(one) + list(other))):
            own = one.get(code, ZERO)
            its = other.get(code, ZERO)
            both = self.greater_one(low_one, own, low_other, its)
            if both != ZERO:
                told[code] = both
            # A lower code only counts where the other one has a higher one.
            if code < max(other):
                low_one = maker.any_of([low_one, own])
            if code < max(one):
                low_other = maker.any_of([low_other, its])
        return told

    def greater_one(self, low_one, own, low_other, its):
        """What is 1 exactly if this code is the greater one of both."""
        if own == ZERO:
            return self.maker.all_of([low_one, its])
        if its == ZERO:
            return self.maker.all_of([low_other, own])
        if low_one == ZERO and low_other == ZERO:
            return self.maker.all_of([own, its])
        return self.maker.gate((low_one, own, low_other, its), GREATER)


def free_scope(program, wiring):
    """The dict from the signals of the program to what they are, and the list of those emitted."""
    plan = wiring.plan
    emitted = {part[1]: True for at, part in enumerate(plan.parts)
               if part[0] == "emit" and plan.binder(at) < 0}
    scope = {}
    names = program[0] + program[1]
    for index, name in enumerate(names):
        given = ("in", index) if index < len(program[0]) else ZERO
        scope[name] = Signal(wiring.maker.later() if name in emitted else given)
        scope[name].feeds.append(given)
    return scope, [scope[name] for name in names if name in emitted]


def circuit_of(program):
    """The circuit of the program."""
    check_program(program)
    plan = statement_plan(program[2])
    wiring = Wiring(plan)
    maker = wiring.maker
    many = wiring.pauses[0] + 1
    if many > MOST_REGISTERS:
        raise TooMany(MOST_REGISTERS)
    scope, emitted = free_scope(program, wiring)
    go = maker.gate((ON,), NOT)
    codes = wiring.wire(0, Coming(go, ON, ZERO, ZERO, scope), 1)
    for signal in emitted:
        maker.settle_any(signal.source, signal.feeds)
    ends = (codes.get(0, ZERO), ON, wiring.held(0, 1))
    outputs = [scope[name].source for name in program[0] + program[1]]
    outputs.extend([maker.gate(ends, ENDED), codes.get(1, ZERO)])
    registers = [(0, ONE)]
    registers.extend([(0, wiring.following.get(index, ZERO)) for index in range(1, many)])
    return len(program[0]), tuple(registers), tuple(maker.gates), tuple(outputs)
