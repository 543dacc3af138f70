"""Texts of rest statements, programs and circuits."""

from restsure.circuits import check_circuit
from restsure.plans import FORMS, rest_plan
from restsure.statements import check_program, checked_rest

LOOSEST = "par"
LOOSE = "seq"


def enclosed(kind, text, kinds):
    """text, in parentheses if what it tells is of one of these kinds."""
    return "(" + text + ")" if kind in kinds else text


def part_text(part, kids, texts):
    """The text of a statement by those of the ones directly in it, kids being their kinds."""
    kind = part[0]
    if kind == LOOSEST:
        return texts[0] + " || " + enclosed(kids[1], texts[1], (LOOSEST,))
    if kind == LOOSE:
        return enclosed(kids[0], texts[0], (LOOSEST,)) + "; " + enclosed(kids[1], texts[1], (LOOSEST, LOOSE))
    words = [kind.upper()]
    form = FORMS[kind]
    if form.startswith("s") or form == "k":
        words.append(str(part[1]))
    if texts:
        words.append("{" + texts[0] + "}")
    if len(texts) > 1:
        words.append("ELSE {" + texts[1] + "}")
    return " ".join(words)


def plan_text(plan):
    """The text of a whole plan."""
    texts = [""] * len(plan.parts)
    for number in reversed(range(len(plan.parts))):
        kids = plan.kids[number]
        kinds = [plan.parts[kid][0] for kid in kids]
        texts[number] = part_text(plan.parts[number], kinds, [texts[kid] for kid in kids])
    return texts[0]


def rest_text(rest):
    """The text of a rest statement."""
    return plan_text(checked_rest(rest))


def listed(word, rows):
    """A word and what it lists, ended by a mark."""
    if not rows:
        return word + ";"
    return word + " " + ", ".join(rows) + ";"


def program_text(program):
    """The text of a program."""
    check_program(program)
    inputs, outputs, body = program
    run = "RUN {" + plan_text(rest_plan(body)) + "}\n"
    return " ".join([listed("INPUTS", inputs), listed("OUTPUTS", outputs), run])


def source_text(source):
    """The text of a source."""
    return source[0] + " " + str(source[1])


def circuit_text(circuit):
    """The text of a circuit."""
    check_circuit(circuit)
    inputs, registers, gates, outputs = circuit
    lines = ["INPUTS " + str(inputs) + ";"]
    for bit, source in registers:
        lines.append("REG " + str(bit) + " " + source_text(source) + ";")
    for sources, table in gates:
        bits = "".join([str(bit) for bit in table])
        lines.append(listed("GATE [" + bits + "]", [source_text(source) for source in sources]))
    for source in outputs:
        lines.append("OUT " + source_text(source) + ";")
    return "\n".join(lines) + "\n"
