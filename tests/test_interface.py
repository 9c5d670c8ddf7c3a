"""What the interface lists: where each function, class and method is defined, and how its arguments are called."""

import importlib
import inspect
import sys
import unittest

CLASSES = {
    "nextkind.houses.House": {
        "__init__": "self **places", "of": "cls table", "none": "", "put": "self bay number", "lesser": "self",
        "read": "cls text", "bays": None, "total": None},
    "nextkind.pairs.Pair": {"__init__": "self first second", "first": None, "second": None},
    "nextkind.rules.Rule": {
        "picks": None, "bays": None, "keep": "self bay", "__call__": "self free", "read": "cls text"},
    "nextkind.rules.First": {"__init__": "self *picks", "of": "cls picks", "read": "cls text"},
    "nextkind.rules.Even": {"__init__": "self *bays most=3", "read": "cls text"},
    "nextkind.rules.Else": {"__init__": "self one other", "read": "cls text"},
    "nextkind.quotas.Quota": {
        "kinds": None, "bounds": "self kind", "listed": "self *kinds", "fullest": "self *kinds", "read": "cls text"},
    "nextkind.quotas.Cap": {"__init__": "self most *kinds", "read": "cls text"},
    "nextkind.quotas.Both": {"__init__": "self first second", "read": "cls text"},
    "nextkind.quotas.Either": {"__init__": "self first second", "read": "cls text"},
    "nextkind.books.Book": {
        "__init__": "self quota **rules", "of": "cls quota table", "quota": None, "kinds": None, "bays": None,
        "pairs": None, "enough": None, "at_once": "self *kinds", "exchanged": "self kind rule", "without": "self kind",
        "under": "self quota", "fate": "self house standing kind"},
    "nextkind.standings.Standing": {
        "__init__": "self table", "none": "", "total": None, "counts": None, "taken": None, "parts": None,
        "of_kind": "self kind", "in_bay": "self bay", "with_one": "self kind bay", "without_one": "self kind bay",
        "fits": "self book house", "left_free": "self house", "read": "cls text"},
    "nextkind.deeds.Deed": {"parts": None},
    "nextkind.deeds.Come": {"__init__": "self kind", "parts": None},
    "nextkind.deeds.Go": {"__init__": "self kind bay", "parts": None},
    "nextkind.deeds.Row": {
        "__init__": "self *deeds", "of": "cls deeds", "parts": None, "comings": None, "until": "self k", "read": "cls text",
        "from_parts": "cls parts"},
    "nextkind.halls.Hall": {
        "__init__": "self book house", "beginning": "cls book house standing", "standing": None, "free": None, "row": None,
        "book": None, "house": None, "come": "self kind", "go": "self kind bay", "fate": "self kind", "do": "self deed",
        "play": "self row", "undo": "self", "trial": "self", "tried": "self work"},
    "nextkind.reach.Reach": {
        "greatest": None, "row_to": "self standing", "refused": None, "refusal": "self kind=None",
        "at_once": "self kind=None bay=None", "rows": "self n"},
    "nextkind.plans.Plan": {
        "bays": None, "least": None, "greatest": None, "least_houses": None, "__call__": "self house",
        "cheapest": "self **prices", "cheapest_by": "self table", "spare": "self house"},
    "nextkind.covers.Covering": {"house": None},
    "nextkind.limits.Limits": {
        "kinds": None, "greatest": None, "least": None, "serves": "self **numbers", "serves_all": "self table"},
    "nextkind.sure.Sure": {"comings": None, "row": None, "lists": None},
    "nextkind.along.Beside": {"here": None, "there": None, "both": None, "greatest": None},
    "nextkind.lamps.Lamps": {
        "__init__": "self book house", "change": "self bay", "undo": "self", "seen": None, "lit": None, "standings": None,
        "fates": "self kind", "row_to": "self standing"},
    "nextkind.desk.Desk": {
        "__init__": "self", "ask": "self line", "__call__": "self line", "run": "self *lines", "book": None, "house": None,
        "standing": None},
}

SIGNS = {
    "nextkind.houses.House": "getitem contains len iter add sub mul rmul floordiv mod and or le lt ge gt eq bool str",
    "nextkind.rules.Rule": "len iter contains or add sub eq str",
    "nextkind.quotas.Quota": "contains len and or eq str",
    "nextkind.books.Book": "getitem contains len iter eq",
    "nextkind.standings.Standing": "getitem len iter add sub and or le lt ge gt eq str",
    "nextkind.deeds.Deed": "eq str",
    "nextkind.deeds.Come": "eq str",
    "nextkind.deeds.Go": "eq str",
    "nextkind.deeds.Row": "len getitem iter add eq str",
    "nextkind.halls.Hall": "len contains getitem setitem iadd isub",
    "nextkind.reach.Reach": "contains len iter bool",
    "nextkind.plans.Plan": "contains bool and or le ge eq",
    "nextkind.covers.Covering": "bool",
    "nextkind.sure.Sure": "bool",
    "nextkind.along.Beside": "bool",
    "nextkind.lamps.Lamps": "len iadd",
    "nextkind.desk.Desk": "len call",
}

FUNCTIONS = {"nextkind.rules.parting": "one other", "nextkind.standings.fitting": "book house",
             "nextkind.reach.reach": "book house", "nextkind.papers.serving_paper": "book house kind=None",
             "nextkind.papers.exact_paper": "book house", "nextkind.papers.plan_paper": "book kind=None",
             "nextkind.looker.shows_serving": "book house paper kind=None", "nextkind.looker.shows_exact": "book house paper",
             "nextkind.looker.shows_plan": "book paper kind=None",
             "nextkind.looker.shows_sure": "book house standing paper kind=None", "nextkind.plans.plan": "book kind=None",
             "nextkind.covers.covers": "one other kind=None", "nextkind.papers.sure_paper": "found",
             "nextkind.limits.limits": "book house", "nextkind.sure.sure": "book house standing=None kind=None",
             "nextkind.along.carried": "book house bay row kind", "nextkind.along.beside": "book house other_book other_house",
             "nextkind.texts.book_text": "book", "nextkind.reader.read_book": "text"}
GENERATORS = ("nextkind.standings.fitting", "nextkind.houses.House.lesser", "nextkind.reach.Reach.rows")


def found(path):
    """What stands under a name in a module."""
    module, name = path.rsplit(".", 1)
    return vars(importlib.import_module(module))[name]


def arguments(function):
    """The names of a function's parameters, with their stars and defaults."""
    rows = inspect.signature(function).parameters.values()
    return " ".join(str(row) for row in rows)


class Interface(unittest.TestCase):
    def test_classes_and_methods(self):
        for path, methods in CLASSES.items():
            made = found(path)
            self.assertEqual(made.__module__, path.rsplit(".", 1)[0])
            for name, told in methods.items():
                held = vars(made)[name]
                if told is None:
                    self.assertIsInstance(held, property, (path, name))
                    continue
                self.assertEqual(isinstance(held, classmethod), told.startswith("cls"), (path, name))
                self.assertEqual(isinstance(held, staticmethod), told == "", (path, name))
                self.assertEqual(arguments(getattr(held, "__func__", held)), told, (path, name))

    def test_signs(self):
        for path, names in SIGNS.items():
            for name in names.split():
                self.assertIn(f"__{name}__", vars(found(path)), path)

    def test_functions(self):
        for path, told in FUNCTIONS.items():
            function = found(path)
            self.assertEqual(function.__module__, path.rsplit(".", 1)[0])
            self.assertEqual(arguments(function), told)

    def test_generators(self):
        for path in GENERATORS:
            place, name = path.rsplit(".", 1)
            held = found(path) if place in sys.modules else vars(found(place))[name]
            self.assertTrue(inspect.isgeneratorfunction(held), path)


if __name__ == "__main__":
    unittest.main()
