"""Point [1] over the whole program: the errors of the arguments, of anything, in their order."""

import importlib
import unittest

import samples
from curtainsteps import errors
from curtainsteps.bounds import greatest_paper, least_paper
from curtainsteps.cheapest import cheapest_paper, dearest_paper
from curtainsteps.days import fair_share
from curtainsteps.desk import Desk
from curtainsteps.fairness import fair_paper
from curtainsteps.kinds import kind_paper
from curtainsteps.pricebook import Pricebook
from curtainsteps.shadows import shadow_paper
from curtainsteps.shelf import Shelf
from curtainsteps.tables import right_table, wider_paper
from test_interface import LISTED

ONE, OTHER, COSTS = samples.ONE, samples.OTHER, samples.COSTS
TABLE = right_table(ONE, OTHER)
DAYS = ((0,), (-1, 0, 1))
CLAIM = (0, 0, 1)
BOOK = (((10, 0, 10), 4, 6),)
FAIR = fair_share(DAYS)
HEDGE = greatest_paper(DAYS, BOOK, CLAIM)[1]
TEXTS = {
    "read_term": "above 1 0", "read_mix": "point 0 1 1", "read_share": "0 1", "read_table": "0 0 1",
    "read_days": "0\n-1 1",
    "judged": "none\nnone\nwider",
}

# Of each argument something that is right.
RIGHT = {
    "share": ONE, "one": ONE, "other": OTHER, "number": 0, "weight": (1, 2), "table": TABLE, "order": (1, 0),
    "crossing": (0, 1, -1, 0, 2), "costs": COSTS, "days": DAYS, "fair": FAIR, "claim": CLAIM, "book": BOOK,
    "hedge": HEDGE, "day": 0, "tables": (TABLE,), "term": ("above", 1, 0), "mix": ("point", 0, 1, 1),
}
PAPERS = {
    "check_wider": wider_paper(ONE, OTHER), "check_kind": kind_paper(ONE, OTHER, COSTS),
    "check_cheapest": cheapest_paper(ONE, OTHER, COSTS), "check_dearest": dearest_paper(ONE, OTHER, COSTS),
    "check_shadow": shadow_paper(ONE, OTHER), "check_fair": fair_paper(DAYS, BOOK),
    "check_greatest": greatest_paper(DAYS, BOOK, CLAIM), "check_least": least_paper(DAYS, BOOK, CLAIM),
}
THINGS = {
    "need_fraction": (1, 2), "need_share": ONE, "need_table": TABLE, "need_costs": COSTS, "need_days": DAYS,
    "need_book": BOOK, "need_term": ("at", 0), "need_mix": ("none",),
}
# The errors that tell the very thing, and those that tell something else.
GIVEN = {
    "share": "BadShare", "one": "BadShare", "other": "BadShare", "number": "BadNumber", "weight": "BadWeight",
    "table": "BadTable", "order": "BadOrder", "crossing": "BadCrossing", "costs": "BadCosts", "days": "BadDays",
    "fair": "BadFair", "claim": "BadClaim", "hedge": "BadHedge", "day": "BadNumber", "tables": "BadTable",
}
TOLD = {
    "book": ("BadBook", {"part": "form"}), "term": ("BadTerm", {"path": ()}), "mix": ("BadMix", {"path": ()}),
    "text": ("BadText", {"line": None, "word": None}), "paper": ("BadPaper", {"part": "form"}),
}
OF_THINGS = {
    "need_fraction": "BadFraction", "need_share": "BadShare", "need_table": "BadTable", "need_costs": "BadCosts",
    "need_days": "BadDays",
}
# Each of no kind that is wanted anywhere.
STRANGE = samples.STRANGE


def right_of(file, name, argument):
    """What is right for an argument of a function."""
    if file == "ratios":
        return {"thing": (1, 2), "top": 6, "bottom": 4}.get(argument, (1, 2))
    if argument == "paper":
        return PAPERS[name]
    if argument == "thing":
        return THINGS[name]
    if argument == "text":
        return TEXTS[name]
    if (name, argument) == ("taken_from", "other"):
        return ONE[:1]
    return RIGHT.get(argument)


def error_of(file, name, argument):
    """The error for what is wrong there, and what it tells, None for the very thing."""
    if file == "ratios":
        return ("BadNumber" if argument in ("top", "bottom") else "BadFraction"), None
    if argument == "thing" and name in OF_THINGS:
        return OF_THINGS[name], None
    if argument == "thing":
        return TOLD[name.replace("need_", "")]
    return TOLD[argument] if argument in TOLD else (GIVEN[argument], None)


class Case(samples.Case):
    def is_refused(self, error, told, thing, call, *passed):
        """The call raises this error, with the very thing or with what is told."""
        if told is None:
            self.refuses(getattr(errors, error), "given", thing, call, *passed)
        else:
            self.refuses_telling(getattr(errors, error), told, call, *passed)


class Functions(Case):
    def calls(self):
        for file, functions in LISTED.items():
            if file != "pricebook":
                module = importlib.import_module("curtainsteps." + file)
                for name, arguments in functions.items():
                    told = arguments.split()
                    yield file, name, getattr(module, name), told, [right_of(file, name, item) for item in told]

    def test_what_is_right(self):
        for _, name, call, _, passed in self.calls():
            ahead = repr(passed)
            first, second = call(*passed), call(*passed)
            self.assertEqual(first, second, name)
            self.assertEqual(repr(first), repr(second), name)
            self.assertEqual(repr(passed), ahead, name)

    def test_one_wrong_argument(self):
        for file, name, call, arguments, passed in self.calls():
            for at, argument in enumerate(arguments):
                for thing in STRANGE:
                    told = [*passed[:at], thing, *passed[at + 1:]]
                    if argument == "value":
                        self.same(False, call, *told)
                    else:
                        error, value = error_of(file, name, argument)
                        self.is_refused(error, value, thing, call, *told)

    def test_two_wrong_arguments(self):
        for file, name, call, arguments, passed in self.calls():
            for at, argument in enumerate(arguments[:-1]):
                error, value = error_of(file, name, argument)
                for thing, other in zip(STRANGE, STRANGE[1:]):
                    for place in range(at + 1, len(arguments)):
                        told = [*passed[:at], thing, *passed[at + 1:]]
                        told[place] = other
                        self.is_refused(error, value, thing, call, *told)


class Methods(Case):
    def test_what_is_made(self):
        for thing in STRANGE:
            self.is_refused("BadDays", None, thing, Pricebook, thing)
            self.is_refused("BadText", {"line": None, "word": None}, thing, Desk, thing)

    def test_two_wrong_arguments(self):
        book, shelf = Pricebook(DAYS), Shelf()
        book.put("a", CLAIM, 0, 1)
        shelf.put("a", ("at", 0))
        for thing, other in zip(STRANGE, STRANGE[1:]):
            self.is_refused("BadLabel", None, thing, book.put, thing, other, other, thing)
            self.is_refused("BadLabel", None, thing, book.put, thing, CLAIM, other, thing)
            self.is_refused("BadClaim", None, thing, book.put, "b", thing, other, thing)
            self.is_refused("Missing", None, thing, book.change, thing, other, thing)
            self.is_refused("BadLabel", None, thing, shelf.put, thing, other)
            self.is_refused("BadDays", None, thing, shelf.paying, thing, other)
            self.is_refused("Missing", None, thing, shelf.paying, DAYS, thing)
            self.is_refused("BadTerm", {"path": ()}, thing, shelf.put, "b", thing)
        self.assertEqual((len(book), len(shelf)), (1, 1))


if __name__ == "__main__":
    unittest.main()
