from restsure.errors import BadMachine, BadNames, NotPlain, TooMany
from restsure.machines import least, machine_of
from restsure.statements import is_program
from restsure.sureness import sure_paper
from restsure.written import program_of
from tests import drawnmachines, plainly, plainprograms, plainwords
from tests.contract import Contract
from tests.drawnmachines import COUNTS, ENDS, ONE_STATE, TWICE

NAMES = ("machine", "inputs", "outputs")
SIGNALS = ("a", "b", "c", "d", "e", "f", "g", "h")
MACHINES = drawnmachines.machines(180, plain=True)


def is_plain(what):
    return all(pair[0][:what[0]] == given for state in what[2] for given, pair in zip(plainly.all_bits(what[0]), state))


def with_names(what, inputs=SIGNALS, outputs=("o", "p", "q", "r", "s", "t", "u", "v")):
    return what, inputs[:what[0]], outputs[:what[1]]


class Written(Contract):
    def writes(self, what, inputs, outputs):
        """The program of the machine, looked at from all sides."""
        prog = self.kept(program_of, NAMES, (what, inputs, outputs))
        self.assertTrue(is_program(prog))
        self.assertEqual(prog[:2], (inputs, outputs))
        self.assertEqual(sure_paper(prog)[0], "sure")
        self.assertEqual(least(machine_of(prog)), least(what))
        return prog

    def test_drawn(self):
        made = 0
        for what in MACHINES:
            try:
                prog = self.writes(*with_names(what))
            except TooMany as error:
                self.assertEqual(error.most, 200)
                self.assertTrue(len(what[2]) > 3 or what[0] > 1 or what[1] > 2)
                continue
            made += 1
            for row in list(plainprograms.rows_up_to(what[0], 3))[-12:]:
                self.assertEqual(plainprograms.tell(prog, row), plainprograms.run(what, row))
        self.assertGreater(made, 150)

    def test_small_ones_are_never_refused(self):
        for seed in range(400):
            what = drawnmachines.machine(seed, seed % 2, seed // 2 % 3, 1 + seed // 6 % 3, True)
            self.writes(*with_names(what))

    def test_all_of_one_state(self):
        for outputs in range(3):
            for inputs in range(2):
                rows = plainly.all_bits(inputs)
                kinds = [(bits, following) for bits in plainly.all_bits(outputs) for following in (None, 0)]
                for one in kinds:
                    for other in kinds if inputs else kinds[:1]:
                        state = tuple((given + bits, following) for given, (bits, following) in zip(rows, (one, other)))
                        self.writes(*with_names((inputs, outputs, (state,))))

    def test_all_of_two_states(self):
        kinds = [(bits, following) for bits in ((0,), (1,)) for following in (None, 0, 1)]
        for one in kinds:
            for other in kinds:
                self.writes((0, 1, ((one,), (other,))), (), ("o",))

    def test_names_that_might_be_taken(self):
        for inputs, outputs in ((("sa",), ("saa",)), (("saa",), ("sab",)), (("sac",), ("sad",)), (("abcdefgh",), ("z",))):
            for what in (COUNTS, TWICE, ENDS):
                self.writes(what, inputs, outputs)
        self.assertEqual(program_of(ONE_STATE, (), ("o",))[1], ("o",))

    def test_great_ones(self):
        eight = tuple((given + given, 0) for given in plainly.all_bits(8))
        same = tuple((given + (1,) * 8, 0) for given in plainly.all_bits(8))
        for what in ((8, 8, (same,)), (8, 8, (eight,)), (0, 0, tuple((((), (at + 1) % 200),) for at in range(200))),
                     (0, 1, tuple((((int(at == 199),), (at + 1) % 200),) for at in range(200))),
                     (0, 1, tuple((((int(at == 11),), (at + 1) % 12),) for at in range(12)))):
            try:
                self.writes(*with_names(what))
            except TooMany as error:
                self.assertEqual(error.most, 200)

    def test_twelve_states_are_written_in_few_statements(self):
        what = (0, 1, tuple((((int(at == 11),), (at + 1) % 12),) for at in range(12)))
        prog = self.writes(what, (), ("o",))
        self.assertLess(plainwords.size(prog[2], 40, False), 120)

    def test_machines_that_are_not_plain(self):
        loud = (1, 1, ((((0, 1), 0), ((1, 1), 0)), (((1, 0), 0), ((1, 0), None))))
        self.refuses(NotPlain, program_of, (loud, ("a",), ("o",)))
        # Also where the state is not found; the names are judged ahead.
        self.refuses(NotPlain, program_of, ((1, 0, ((((1,), None), ((1,), None)),)), ("a",), ()))
        self.refuses(BadNames, program_of, (loud, ("a",), ("a",)))
        self.refuses(BadNames, program_of, (loud, (), ("a",)))
        for what in drawnmachines.machines(60):
            if not is_plain(what):
                self.refuses(NotPlain, program_of, with_names(what))

    def test_names(self):
        two = (2, 2, (tuple((given + (0, 1), 0) for given in plainly.all_bits(2)),))
        for inputs, outputs in ((("a", "a"), ("o", "p")), (("a", "b"), ("o", "o")), (("a", "b"), ("b", "o")), (("a", "b"), ("o", "a")),
                                (("a",), ("o", "p")), (("a", "b"), ("o",)), (("a", "b", "c"), ("o", "p")), (["a", "b"], ("o", "p")),
                                (("a", "b"), ["o", "p"]), (("a", "B"), ("o", "p")), (("a", "b"), ("o", None)), (("a", ""), ("o", "p")),
                                ("ab", ("o", "p")), ({"a": 0, "b": 1}, ("o", "p")), (("a", "abcdefghi"), ("o", "p")), ((True, "b"), ("o", "p"))):
            self.refuses(BadNames, program_of, (two, inputs, outputs))
        self.writes(two, ("b", "a"), ("p", "o"))

    def test_wrong_ones(self):
        args = (COUNTS, ("a",), ("o",))
        self.wrong_values(program_of, args, 0, BadMachine, plainprograms.machine, least=100)
        for place in (1, 2):
            self.wrong_values(program_of, args, place, BadNames, least=60, is_right=lambda x: type(x) is tuple and len(x) == 1
                              and plainwords.signal(x[0]) and x[0] != args[3 - place][0])
        self.first_error(program_of, args, (BadMachine, BadNames, BadNames))
