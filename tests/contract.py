"""What each function of the interface keeps, whatever it tells."""

import unittest

from tests.values import changed, every_kind


def containers(value):
    """The ids of all lists and dicts within value."""
    if isinstance(value, dict):
        inner = list(value.values())
    elif isinstance(value, (list, tuple)):
        inner = list(value)
    else:
        return set()
    found = set() if isinstance(value, tuple) else {id(value)}
    for item in inner:
        found |= containers(item)
    return found


def spoil(value):
    """Change all lists and dicts within value."""
    if isinstance(value, dict):
        for item in value.values():
            spoil(item)
        value.clear()
        value["spoilt"] = 1
    elif isinstance(value, (list, tuple)):
        for item in value:
            spoil(item)
        if isinstance(value, list):
            value.append("spoilt")


def copied(value):
    """The same value of new lists and dicts."""
    if isinstance(value, dict):
        return {key: copied(item) for key, item in value.items()}
    if isinstance(value, (list, tuple)):
        return type(value)([copied(item) for item in value])
    return value


class Contract(unittest.TestCase):
    """Tests of a function by what is passed to it."""

    def kept(self, function, names, args):
        """By position and by name, equal each time, nothing changed, all of it new; the result."""
        before = repr(args)
        told = function(*args)
        again = function(**dict(reversed(list(zip(names, args)))))
        self.assertEqual(repr(told), repr(again))
        half = function(*args[:1], **dict(zip(names[1:], args[1:])))
        self.assertEqual(repr(told), repr(half))
        self.assertEqual(before, repr(args))
        self.assertFalse(containers(told) & containers(again))
        self.assertFalse(containers(told) & containers(args))
        spent = copied(args)
        result = function(*spent)
        spoil(list(spent))
        self.assertEqual(repr(told), repr(result))
        spoil(again)
        self.assertEqual(repr(told), repr(function(*args)))
        self.assertEqual(before, repr(args))
        return told

    def alike_lists(self, function, args, place):
        """The argument at place is a list or a tuple: the result is the same."""
        args = list(args)
        args[place] = list(args[place])
        told = repr(function(*args))
        args[place] = tuple(args[place])
        self.assertEqual(told, repr(function(*args)))

    def refuses(self, error, function, args):
        """The call raises just this error."""
        before = repr(args)
        with self.assertRaises(error) as caught:
            function(*args)
        self.assertIs(type(caught.exception), error)
        self.assertEqual(before, repr(args))

    def wrong_values(self, function, args, place, error, is_right, more=(), least=1):
        """Each value in the place of a parameter that is not right raises error."""
        refused = 0
        for value in list(changed(args[place])) + every_kind() + list(more):
            if is_right(value):
                continue
            self.refuses(error, function, args[:place] + (value,) + args[place + 1:])
            refused += 1
        self.assertGreaterEqual(refused, least)
        return refused

    def first_error(self, function, args, errors):
        """Where several are wrong, the error of the first one comes; "Wrong" is right nowhere."""
        places = [place for place, error in enumerate(errors) if error is not None]
        for place in places:
            for other in places:
                if other >= place:
                    wrong = list(args)
                    wrong[place] = "Wrong"
                    wrong[other] = "Wrong"
                    self.refuses(errors[place], function, tuple(wrong))

    def judges(self, is_so, should, values):
        """A judging function tells of each value what should tells, True and False themselves."""
        told = {True: 0, False: 0}
        for value in values:
            before = repr(value)
            verdict = is_so(value)
            self.assertIsInstance(verdict, bool)
            self.assertEqual(verdict, should(value), before[:2000])
            self.assertEqual(before, repr(value))
            told[verdict] += 1
        return told
