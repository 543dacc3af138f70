"""The document's words on the workshop once more, as plainly as can be."""

from restsure import errors
from restsure.reached import reached
from restsure.sureness import sure_paper
from tests import plainwords


def open_size(thing, levels=40):
    """How many statements stand in an open statement; No unless it is built as one."""
    if type(thing) is tuple and len(thing) == 3 and type(thing[0]) is str and thing[0] == "run":
        pairs = thing[2]
        if levels == 0 or not plainwords.signal(thing[1]) or type(pairs) is not tuple or len(pairs) > 16:
            raise plainwords.No
        for pair in pairs:
            if type(pair) is not tuple or len(pair) != 2 or not all(map(plainwords.signal, pair)):
                raise plainwords.No
        if any(a[0] >= b[0] for a, b in zip(pairs, pairs[1:])):
            raise plainwords.No
        return 1
    if levels == 0 or type(thing) is not tuple or not thing or type(thing[0]) is not str or thing[0] == "hold":
        raise plainwords.No
    if thing[0] not in plainwords.FORMS or len(thing) != len(plainwords.FORMS[thing[0]]) + 1:
        raise plainwords.No
    many = 1
    for sign, item in zip(plainwords.FORMS[thing[0]], thing[1:]):
        if sign == "s" and not plainwords.signal(item) or sign == "k" and (type(item) is not int or not 0 <= item <= 20):
            raise plainwords.No
        if sign == "p":
            many += open_size(item, levels - 1)
    return many


def free(thing, bound=()):
    if thing[0] == "run":
        return {second for _, second in thing[2]} - set(bound)
    found = {thing[1]} - set(bound) if thing[0] in ("emit", "if", "suspend") else set()
    if thing[0] == "local":
        bound += (thing[1],)
    for _, kid in plainwords.kids(thing):
        found |= free(kid, bound)
    return found


def module(inputs, outputs, body):
    for names in (inputs, outputs):
        if type(names) is not tuple or len(names) > 8 or not all(map(plainwords.signal, names)):
            return False
    names = inputs + outputs
    try:
        return len(set(names)) == len(names) and open_size(body) <= 200 and free(body) <= set(names)
    except plainwords.No:
        return False


def runs(thing):
    if thing[0] == "run":
        return [thing]
    return [run for _, kid in plainwords.kids(thing) for run in runs(kid)]


def passed(thing, pairs, caught, around=()):
    """The statement with its free signals exchanged; caught gets what is caught."""
    row = list(thing)
    if thing[0] in ("emit", "if", "suspend") and thing[1] not in around:
        row[1] = pairs[thing[1]]
        if row[1] in around:
            caught.append(row[1])
    if thing[0] == "local":
        around += (thing[1],)
    for index, kid in plainwords.kids(thing):
        row[index] = passed(kid, pairs, caught, around)
    return tuple(row)


class PlainShop:
    """A workshop that keeps all lots of modules, and looks anew each time, but for looks."""

    def __init__(self):
        self.times = [{}]
        self.at = 0
        self.last = {}
        self.names = []

    def here(self):
        return self.times[self.at]

    def deed(self, modules):
        self.times = self.times[:self.at + 1] + [modules]
        self.at += 1

    def put(self, m, inputs, outputs, body):
        if not plainwords.signal(m):
            raise errors.BadName
        if not module(inputs, outputs, body):
            raise errors.BadModule
        if len([name for name in self.here() if name != m]) >= 40:
            raise errors.TooMany(40)
        self.deed({**self.here(), m: (inputs, outputs, body)})

    def drop(self, m):
        self.there(m)
        self.deed({name: row for name, row in self.here().items() if name != m})

    def undo(self):
        if self.at == 0:
            raise errors.NothingDone
        self.at -= 1

    def redo(self):
        if self.at + 1 == len(self.times):
            raise errors.NothingUndone
        self.at += 1

    def there(self, m):
        if not plainwords.signal(m):
            raise errors.BadName
        if m not in self.here():
            raise errors.NotHere

    def modules(self):
        return dict(sorted(self.here().items()))

    def missing(self):
        return sorted({run[1] for row in self.here().values() for run in runs(row[2])} - set(self.here()))

    def leads(self, m):
        """All names to which m leads by one or more runs."""
        found, near = set(), [m]
        while near:
            name = near.pop()
            for run in runs(self.here()[name][2]) if name in self.here() else ():
                if run[1] not in found:
                    found.add(run[1])
                    near.append(run[1])
        return found

    def size(self, m):
        kids = [self.size(run[1]) for run in runs(self.here()[m][2])]
        return open_size(self.here()[m][2], 1000) - len(kids) + sum(kids)

    def expanded(self, thing, caught):
        if thing[0] == "run":
            body = self.expanded(self.here()[thing[1]][2], caught)
            return passed(body, dict(thing[2]), caught)
        row = list(thing)
        for index, kid in plainwords.kids(thing):
            row[index] = self.expanded(kid, caught)
        return tuple(row)

    def program(self, m):
        self.there(m)
        names = sorted(self.leads(m) | {m})
        for name in names:
            if name not in self.here():
                raise errors.Missing(name)
        for name in names:
            if name in self.leads(name):
                raise errors.Ring(name)
        for name in names:
            for run in runs(self.here()[name][2]):
                inputs, outputs, _ = self.here()[run[1]]
                if {first for first, _ in run[2]} != set(inputs + outputs):
                    raise errors.NotFitting(name)
        if self.size(m) > 200:
            raise errors.NotProgram
        caught = []
        inputs, outputs, body = self.here()[m]
        told = inputs, outputs, self.expanded(body, caught)
        if caught:
            raise errors.Caught(min(caught))
        if not plainwords.program(told):
            raise errors.NotProgram
        return told

    def look(self, m):
        prog = self.program(m)
        if m not in self.last or self.last[m] != prog:
            reached(prog)
            self.last[m] = prog
            self.names.append(m)
        paper = sure_paper(prog)
        return ("sure", len(paper[1])) if paper[0] == "sure" else paper[:2]

    def standing(self):
        told = {}
        for name in sorted(self.here()):
            try:
                told[name] = self.look(name)[0]
            except (errors.Missing, errors.Ring, errors.NotFitting, errors.Caught, errors.NotProgram) as error:
                told[name] = {errors.Missing: "missing", errors.Ring: "ring", errors.NotFitting: "unfit",
                              errors.Caught: "caught", errors.NotProgram: "wrong"}[type(error)]
        return told

    def looks(self):
        return tuple(self.names)
