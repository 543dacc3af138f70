"""A workshop of modules that run one another."""

from restsure.errors import BadModule, BadName, Caught, Missing, NotFitting, NotHere, NotProgram
from restsure.errors import NothingDone, NothingUndone, Ring, TooMany
from restsure.kinds import is_signal
from restsure.modules import is_module, names_run, trouble_of
from restsure.reached import reach_of
from restsure.sureness import unsure_row

MOST_MODULES = 40


def check_name(name):
    """Raise BadName unless name is one."""
    if not is_signal(name):
        raise BadName("not a name of 1 to 8 letters a to z")


def seen_of(program):
    """What a look at a program tells."""
    reach = reach_of(program)
    row = unsure_row(reach)
    if row is None:
        return "sure", len(reach.states)
    return "unsure", row


class Workshop:
    """Modules by names, and what was done to them.

    here: the modules; done and undone: those ahead of the deeds that stand, behind those that were
    taken back, the last ones last; found: by name, the program that was looked at last and what was
    seen; looked: the names that were looked at.
    """

    def __init__(self):
        self.here = {}
        self.done = []
        self.undone = []
        self.found = {}
        self.looked = []

    def put(self, m, inputs, outputs, body):
        """Let this module have the name m."""
        check_name(m)
        module = (inputs, outputs, body)
        if not is_module(module):
            raise BadModule("not a module")
        modules = dict(self.here)
        modules[m] = module
        if len(modules) > MOST_MODULES:
            raise TooMany(MOST_MODULES)
        self.go_over(modules)

    def drop(self, m):
        """Let no module have the name m."""
        self.check_here(m)
        self.go_over({name: module for name, module in self.here.items() if name != m})

    def go_over(self, modules):
        """Let these be the modules, as a new deed."""
        self.done.append(self.here)
        self.undone = []
        self.here = modules

    def undo(self):
        """Take the last deed that stands back."""
        if not self.done:
            raise NothingDone("no deed stands")
        self.undone.append(self.here)
        self.here = self.done.pop()

    def redo(self):
        """Do the last deed again that was taken back."""
        if not self.undone:
            raise NothingUndone("no deed was taken back")
        self.done.append(self.here)
        self.here = self.undone.pop()

    def modules(self):
        """The dict from the names to the modules."""
        return {name: self.here[name] for name in sorted(self.here)}

    def missing(self):
        """The ascending list of the names that are run and not here."""
        found = [name for module in self.here.values() for name in names_run(module)]
        return sorted(set([name for name in found if name not in self.here]))

    def check_here(self, m):
        """Raise BadName or NotHere unless a module has the name m."""
        check_name(m)
        if m not in self.here:
            raise NotHere("no module has this name")

    def program(self, m):
        """The program that comes of a module and of all that it runs."""
        self.check_here(m)
        word, told = trouble_of(self.here, m)
        if word == "missing":
            raise Missing(told)
        if word == "ring":
            raise Ring(told)
        if word == "unfit":
            raise NotFitting(told)
        if word == "caught":
            raise Caught(told)
        if word == "wrong":
            raise NotProgram("what comes is not a program")
        return told

    def seen(self, m, program):
        """What a look at this program of the module m tells, a new one only if it is another one."""
        if m not in self.found or self.found[m][0] != program:
            self.found[m] = (program, seen_of(program))
            self.looked.append(m)
        return self.found[m][1]

    def look(self, m):
        """Whether a module is sure: how many states it reaches, or a row to an unsure instant."""
        return self.seen(m, self.program(m))

    def standing(self):
        """The dict from the names to how their modules stand."""
        told = {}
        for name in sorted(self.here):
            word, program = trouble_of(self.here, name)
            told[name] = self.seen(name, program)[0] if word == "fine" else word
        return told

    def looks(self):
        """The tuple of the names that were looked at so far, in order."""
        return tuple(self.looked)
