"""The document as a whole: the same is told of a program in all its forms."""

import random

from restsure.alike import alike
from restsure.diagrams import diagram_of, end_at, parted_at
from restsure.errors import NotSure, TooMany
from restsure.instants import run_program
from restsure.joined import joined_circuit, pairing
from restsure.machines import least, machine_of, run_machine
from restsure.pieces import pieces_pairing, put_in
from restsure.reading import read_circuit, read_program
from restsure.readings import run_circuit
from restsure.rests import settles
from restsure.statements import is_program
from restsure.straight import code_of, run_straight
from restsure.unringed import unringed
from restsure.wiring import circuit_of
from restsure.workshop import Workshop
from restsure.writing import circuit_text, program_text
from restsure.written import program_of
from tests import drawnpieces, drawnprograms, drawnwords
from tests.contract import Contract
from tests.test_joined import PARTS, by_sizes, drawn_frame, near_part


def drawn_rows(rng, many, longest=7):
    return [tuple(rng.randint(0, 1) for _ in range(many)) for _ in range(longest)]


def bits_of(told):
    """What a program tells along a row, as outputs of its circuit; and the index of an unsure instant."""
    sure = [one for one in told if one is not None]
    return [totals + (int(code == 0), int(code == 1)) for totals, code, _ in sure], len(sure) if None in told else None


class Forms(Contract):
    def programs(self):
        return drawnprograms.small_inputs(90, start=500) + drawnwords.programs(60, start=700) + drawnprograms.whirls(24, start=70)

    def test_a_program_and_its_circuits(self):
        rng = random.Random(1)
        unsure = 0
        for prog in self.programs():
            what = circuit_of(prog)
            for _ in range(3):
                rows = drawn_rows(rng, len(prog[0]))
                told = bits_of(run_program(prog, rows))
                self.assertEqual(run_circuit(what, rows), told)
                self.assertEqual(run_circuit(read_circuit(circuit_text(what)), rows), told)
                unsure += told[1] is not None
        self.assertGreater(unsure, 30)

    def test_whole_circuits_come_to_one_rest(self):
        rng = random.Random(2)
        told = {"yes": 0, "no": 0}
        for prog in drawnprograms.small_inputs(40, start=900):
            what = circuit_of(prog)
            held = tuple(bit for bit, _ in what[1])
            given = drawn_rows(rng, len(prog[0]), 1)[0]
            word = settles(what, given, held)[0]
            self.assertEqual(word == "yes", run_program(prog, [given]) != [None])
            told[word] += 1
        self.assertGreater(told["yes"], 10)

    def test_all_forms_of_sure_programs(self):
        rng = random.Random(3)
        tried = 0
        for prog in self.programs():
            try:
                machine, code = machine_of(prog), code_of(prog)
            except NotSure:
                continue
            tried += 1
            again = read_program(program_text(prog))
            self.assertEqual(again, prog)
            self.assertEqual(code[0], circuit_of(prog))
            for _ in range(2):
                rows = drawn_rows(rng, len(prog[0]))
                told, index = bits_of(run_program(prog, rows))
                self.assertIsNone(index)
                self.assertEqual([totals + (1 - bit, bit) for totals, bit in run_machine(machine, rows)], told)
                self.assertEqual([totals + (1 - bit, bit) for totals, bit in run_machine(least(machine), rows)], told)
                start = tuple(rng.randint(0, 1) for _ in code[0][2])
                self.assertEqual(run_straight(code, start, rows), told)
                self.assertEqual(self.along_diagram(rng, code[0], rows), told)
                self.assertEqual(self.without_rings(code[0], rows), told)
        self.assertGreater(tried, 60)

    def along_diagram(self, rng, what, rows):
        """What the circuit's diagram tells, or the circuit if it has too many sources."""
        order = [("in", at) for at in range(what[0])] + [("reg", at) for at in range(len(what[1]))]
        rng.shuffle(order)
        if len(order) > 10:
            return run_circuit(what, rows)[0]
        diagram = diagram_of(what, tuple(order))
        held, told = tuple(bit for bit, _ in what[1]), []
        for given in rows:
            _, outputs, held = end_at(what, tuple(order), diagram, given, held)
            told.append(outputs)
        return told

    def without_rings(self, what, rows):
        """What the circuit without rings tells, but for the last output, which is 1."""
        try:
            made = unringed(what)
        except TooMany:
            return run_circuit(what, rows)[0]
        told = run_circuit(made, rows)[0]
        self.assertTrue(all(row[-1] == 1 for row in told))
        return [row[:-1] for row in told]

    def test_machines_written_again(self):
        for prog in drawnprograms.small_inputs(24, start=1200):
            try:
                machine = least(machine_of(prog))
            except NotSure:
                continue
            if len(machine[2]) > 3 or len(prog[0]) > 1 or any(totals[:len(prog[0])] != given for state in machine[2]
                                                              for given, (totals, _) in zip(((0,), (1,)) if prog[0] else ((),), state)):
                continue
            again = program_of(machine, prog[0], prog[1])
            self.assertEqual(least(machine_of(again)), machine)
            self.assertEqual(alike(prog, again)[0], "alike")


class Exchanges(Contract):
    def test_parts_within_circuits(self):
        rng = random.Random(4)
        tried = 0
        for row in by_sizes(PARTS[::3]):
            for _ in range(12):
                other = rng.choice(row)
                one = near_part(rng, other)
                if pairing(one, other) is None:
                    continue
                frame = drawn_frame(rng, one)
                wholes = [joined_circuit(frame, what) for what in (one, other)]
                rows = drawn_rows(rng, wholes[0][0], 5)
                self.assertEqual(run_circuit(wholes[0], rows), run_circuit(wholes[1], rows))
                if one[1] == other[1]:
                    self.differ_where_unsure_alone(*wholes)
                tried += 1
        self.assertGreater(tried, 60)

    def differ_where_unsure_alone(self, one, other):
        """Circuits of parts that do alike do the same from the bits held at first."""
        if one[0] + len(one[1]) > 8 or one[1] != other[1]:
            return
        found = parted_at(one, other)
        if found is not None:
            held = tuple(bit for bit, _ in one[1])
            self.assertNotEqual(found[1], held)

    def test_pieces_within_programs_and_workshops(self):
        rng = random.Random(5)
        tried = 0
        for one, other in drawnpieces.pairs(160, start=60000):
            if pieces_pairing(one, other) is None:
                continue
            names = one[0]
            around = ("trap", ("par", ("trap", ("seq", ("hole",), ("emit", names[0]))), ("loop", ("seq", ("pause",), ("hole",)))))
            around = ("trap", around)
            programs = [(names, (), put_in(around, piece[1])) for piece in (one, other)]
            if not all(map(is_program, programs)):
                continue
            try:
                self.assertEqual(alike(*programs)[0], "alike")
            except TooMany:
                continue
            told = []
            for prog in programs:
                shop = Workshop()
                shop.put("m", names, (), ("run", "k", tuple(zip(names, names))))
                shop.put("k", *prog)
                self.assertEqual(shop.program("m"), prog)
                told.append(shop.look("m"))
            self.assertEqual(told[0][0], told[1][0])
            tried += 1
            rows = drawn_rows(rng, len(names))
            self.assertEqual(*[bits_of(run_program(prog, rows)) for prog in programs])
        self.assertGreater(tried, 40)
