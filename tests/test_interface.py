"""The names and arguments that the document's interface tells, of all modules."""

import importlib
import inspect
import unittest

FUNCTIONS = {
    "values": {"is_value": ["thing"], "ahead": ["one", "other"], "in_order": ["some"]},
    "books": {"book_of": ["tables", "rules", "rows"]},
    "texts": {"show_value": ["value"], "read_value": ["text"]},
    "rules": {"rule_of": ["parts"]},
    "breaks": {"breaks": ["book", "rows"], "good": ["book", "rows"], "held": ["book", "rows"], "clashes": ["book"]},
    "mends": {"mended": ["book"], "many_mended": ["book"], "mended_at": ["book", "number"],
              "is_mended": ["book", "rows"], "mended_with": ["book", "rows"]},
    "questions": {"question_of": ["tables", "head", "atoms"], "answers": ["rows", "question"]},
    "wording": {"show_question": ["question"], "read_question": ["tables", "text"]},
    "sure": {"sure": ["book", "question"], "maybe": ["book", "question"], "failing": ["book", "question", "answer"],
             "standing": ["book", "question", "answer"], "odds": ["book", "question", "answer"]},
    "blocks": {"is_plain": ["book"], "blocks": ["book"], "many_by_blocks": ["book"], "chosen": ["book", "number"]},
    "sums": {"sum_in": ["book", "rows", "t", "c"], "sums": ["book", "t", "c"]},
    "sways": {"known": ["tables", "question", "atom"], "sways": ["tables", "question"], "ring": ["tables", "question"]},
    "formulas": {"holds": ["formula", "rows", "values"]},
    "otherwise": {"put_otherwise": ["tables", "question"], "surely": ["book", "question"]},
}
METHODS = {
    ("rules", "Rule"): {"__init__": ["parts"], "bars": ["row"], "parts_them": ["row", "other"],
                        "lacks": ["row", "rows"]},
    ("ledger", "Ledger"): {"__init__": ["tables", "rules"], "put": ["t", "cells"], "take": ["number"], "book": [],
                           "breaks": [], "many": [], "mended_at": ["number"], "sure": ["text"], "maybe": ["text"],
                           "way": ["text"]},
}


def module_of(name):
    return importlib.import_module("mendsure." + name)


def defaults_of(function):
    parameters = inspect.signature(function).parameters.values()
    return {part.name: part.default for part in parameters if part.default is not inspect.Parameter.empty}


class TestInterface(unittest.TestCase):
    def test_functions(self):
        for name, functions in FUNCTIONS.items():
            for function, arguments in functions.items():
                with self.subTest(module=name, function=function):
                    found = getattr(module_of(name), function)
                    self.assertEqual(list(inspect.signature(found).parameters), arguments)
                    self.assertEqual(defaults_of(found), {})

    def test_methods(self):
        for (name, title), methods in METHODS.items():
            for method, arguments in methods.items():
                with self.subTest(title=title, method=method):
                    found = getattr(getattr(module_of(name), title), method)
                    self.assertEqual(list(inspect.signature(found).parameters), ["self"] + arguments)
                    self.assertEqual(defaults_of(found), {"rules": None} if arguments == ["tables", "rules"] else {})

    def test_the_kinds_of_rules(self):
        rules = module_of("rules")
        for kind in (rules.Never, rules.Apart, rules.Tie):
            self.assertEqual(kind.__bases__, (rules.Rule,))


if __name__ == "__main__":
    unittest.main()
