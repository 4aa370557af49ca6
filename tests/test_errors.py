"""Point [1] and the section on errors.py: each error's place, its attributes, made of any things."""

import unittest

import samples
from curtainsteps import errors

UNDER_STEP = {
    "part": ["BadPaper", "BadBook"],
    "given": [
        "BadFraction", "BadShare", "BadNumber", "BadWeight", "BadOrder", "BadTable", "BadCrossing", "BadCosts",
        "BadDays", "BadClaim", "BadFair", "BadHedge", "BadLabel", "BadQuote",
    ],
    "paper": ["NotWider", "SureGain"],
    "path": ["BadTerm", "BadMix"],
}
ELSEWHERE = {"TooMany": (OverflowError, "most"), "NothingLeft": (RuntimeError, "many"), "Missing": (KeyError, "given")}
THINGS = samples.STRANGE + ["", "%", 0, -1, 10 ** 60, (), (1, (2, [3])), [[]], 10 ** 5000]


class Places(unittest.TestCase):
    def test_step_error(self):
        self.assertEqual(errors.StepError.__bases__, (ValueError,))
        for passed in [(), ("why",), ("why", 2), (None, [], {})]:
            self.assertEqual(errors.StepError(*passed).args, passed)
        self.assertEqual(str(errors.StepError("why")), "why")

    def test_straight_under_step_error(self):
        for names in UNDER_STEP.values():
            for name in names:
                self.assertEqual(getattr(errors, name).__bases__, (errors.StepError,), name)
        self.assertEqual(errors.BadText.__bases__, (errors.StepError,))

    def test_under_errors_of_python(self):
        for name, (base, _) in ELSEWHERE.items():
            self.assertEqual(getattr(errors, name).__bases__, (base,), name)

    def test_all_are_defined_there_and_no_more(self):
        listed = {"StepError", "BadText", *ELSEWHERE}.union(*UNDER_STEP.values())
        found = {name for name, value in vars(errors).items() if isinstance(value, type)}
        self.assertEqual(found, listed)
        for name in listed:
            self.assertEqual(getattr(errors, name).__module__, "curtainsteps.errors")


class Attributes(unittest.TestCase):
    def holds(self, name, attribute):
        for thing in THINGS:
            error = getattr(errors, name)(thing)
            self.assertEqual(list(vars(error)), [attribute])
            self.assertIs(getattr(error, attribute), thing)
            with self.assertRaises(getattr(errors, name)) as caught:
                raise error
            self.assertIs(caught.exception, error)

    def test_one_attribute(self):
        for attribute, names in UNDER_STEP.items():
            for name in names:
                self.holds(name, attribute)
        for name, (_, attribute) in ELSEWHERE.items():
            self.holds(name, attribute)

    def test_text(self):
        for line in THINGS:
            for word in [None, 0, [], "x"]:
                error = errors.BadText(line, word)
                self.assertIs(error.line, line)
                self.assertIs(error.word, word)

    def test_wrong_number_of_arguments(self):
        for name in [*ELSEWHERE, *sum(UNDER_STEP.values(), [])]:
            for passed in [(), (1, 2)]:
                with self.assertRaises(TypeError):
                    getattr(errors, name)(*passed)
        for passed in [(), (1,), (1, 2, 3)]:
            with self.assertRaises(TypeError):
                errors.BadText(*passed)

    def test_names_of_the_arguments(self):
        self.assertEqual(errors.BadShare(given=1).given, 1)
        self.assertEqual(errors.BadPaper(part=1).part, 1)
        self.assertEqual(errors.NotWider(paper=1).paper, 1)
        self.assertEqual(errors.BadTerm(path=1).path, 1)
        self.assertEqual(errors.BadText(line=1, word=2).word, 2)
        self.assertEqual(errors.TooMany(most=1).most, 1)
        self.assertEqual(errors.NothingLeft(many=1).many, 1)
        self.assertEqual(errors.Missing(given=1).given, 1)


if __name__ == "__main__":
    unittest.main()
