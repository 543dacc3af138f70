import unittest

from restsure import errors
from tests.values import every_kind

PLAIN = """BadCases BadCircuit BadCode BadDiagram BadElement BadFrame BadGiven BadHeld BadLine BadLot BadMachine
BadModule BadName BadNames BadNumber BadOrder BadOwn BadPart BadPath BadPicks BadPiece BadProgram BadReadings BadRest
BadRow BadRows BadRun BadSignal BadSignals BadStanding BadStart BadState BadStatement BadSteps BadSurroundings BadTable
BadWord Lost NotHere NotPlain NotProgram NothingDone NothingUndone Unlike""".split()
TOLD = {"BadText": "index", "Caught": "signal", "Missing": "name", "NotFitting": "name", "NotSure": "row",
        "Ring": "name", "TooMany": "most", "Unsure": "index", "Wide": "most"}


class Errors(unittest.TestCase):
    def test_all_stand_directly_below_the_one(self):
        self.assertEqual(errors.RestError.__bases__, (ValueError,))
        for name in PLAIN + list(TOLD):
            self.assertEqual(getattr(errors, name).__bases__, (errors.RestError,), name)
            self.assertEqual(getattr(errors, name).__module__, "restsure.errors")

    def test_no_others_are_there(self):
        made = [name for name, thing in vars(errors).items() if isinstance(thing, type)]
        self.assertEqual(sorted(made), sorted(PLAIN + list(TOLD) + ["RestError"]))

    def test_plain_ones_are_made_of_any_text(self):
        for name in PLAIN + ["RestError"]:
            for text in ("", "a", "not this {one}", "two\nlines"):
                self.assertEqual(str(getattr(errors, name)(text)), text)

    def test_attributes_by_position_and_by_name(self):
        for name, attribute in TOLD.items():
            kind = getattr(errors, name)
            for value in every_kind():
                self.assertIs(getattr(kind(value), attribute), value)
                self.assertIs(getattr(kind(**{attribute: value}), attribute), value)

    def test_they_are_raised_and_caught(self):
        for name, attribute in TOLD.items():
            with self.assertRaises(errors.RestError) as caught:
                raise getattr(errors, name)(7)
            self.assertEqual(getattr(caught.exception, attribute), 7)
        for name in PLAIN:
            with self.assertRaises(errors.RestError):
                raise getattr(errors, name)("a")

    def test_they_are_equal_to_nothing_else(self):
        for name in PLAIN:
            for value in every_kind():
                self.assertFalse(getattr(errors, name)("a") == value)


if __name__ == "__main__":
    unittest.main()
