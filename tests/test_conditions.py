"""Tests, conditions and comparisons: which values are some, and what they say of records."""

import unittest
from random import Random

from keybehind.conditions import holds, is_comparison, is_condition, says
from keybehind.errors import BadComparison, BadCondition, NotRecord
from tests.helpers import ODD, SHOP, TIMES, WORDY, bent, deep
from tests.samples import Judge, condition_from, object_of, said, tests_of, told, tree_from

BELOW = ("less", ("a", "price"), ("b", "price"))
ALONE = ("less", ("a", "cost"), ("a", "price"))
PRICES = ("if", BELOW, "less", ("if", ("less", ("b", "price"), ("a", "price")), "greater", "alike"))
PARTS = (*ODD, "pen", "if", "less", "same", "is", "not", "or", 999, -2001, ("is", "a", "pen"), ("is", "b", "pen"),
         ("a", "pages"), ("not",), ["or"], ("less", 0, 0))
RECORDS = (("ware", (1000,)), ("ware", (0,)), ("book", (90, 1000)), ("book", (1000, 1001)), ("pen", (999, 1000)),
           ("pen", (1000, 1000)), ("pen", (-5, -3000)))


class IsCondition(unittest.TestCase):
    def test_each_test(self):
        for family in (SHOP, TIMES, WORDY):
            for test in tests_of(family, "ab"):
                sides = [side for side in test[1:] if isinstance(side, tuple)]
                alone = "b" not in ([test[1]] if test[0] == "is" else [side[0] for side in sides])
                self.assertIs(is_condition(family, test, both=True), True)
                self.assertIs(is_condition(family, test), alone, test)
                self.assertIs(is_condition(family, test, both=False), alone)

    def test_wrong_tests(self):
        for thing in (("is", "a", "cost"), ("is", "c", "pen"), ("is", "a"), ("is", "a", "pen", "pen"), ("is", "pen", "a"),
                      ("is", "a", ("pen",)), ("is", ("a",), "pen"), ["is", "a", "pen"], ("is", "a", None), ("is", True, "pen"),
                      ("less", 0, 1000), ("same", 0, 0), ("less", ("a", "price"), 1), ("less", ("a", "price"), 999),
                      ("less", ("a", "price"), True), ("same", False, ("a", "price")), ("less", ("a", "price"), "0"),
                      ("less", ("a", "price"), None), ("less", ("a", "price"), (0,)), ("less", ("a", "price"), [0]),
                      ("less", ("a", "price")), ("less", ("a", "price"), 0, 0), ("less", ("a", "pen"), 0),
                      ("less", ("c", "price"), 0), ("less", ["a", "price"], 0), ("less", ("a", "price", "price"), 0),
                      ("less", ("a",), 0), ("less", (), 0), ("less", "a", 0), ("less", "price", 0), ("less", ("a", "money"), 0),
                      ("less", ("a", "price"), ("a", "pages")), ("same", ("a", "pages"), ("a", "cost")),
                      ("same", ("a", "pages"), ("b", "cost")), ("less", ("a", ["price"]), 0), ("less", (["a"], "price"), 0),
                      ("less", ("a", {}), 0), ("less", ({}, "price"), 0), ("more", ("a", "price"), 0), ("less",), (),
                      ("alike", ("a", "price"), 0), (None, ("a", "price"), 0), (["less"], ("a", "price"), 0), "less", None):
            self.assertIs(is_condition(SHOP, thing, both=True), False, thing)
            self.assertIs(is_condition(SHOP, thing), False, thing)
            for around in (("not", thing), ("and", thing), ("or", ALONE, thing, ALONE), ("not", ("and", ("or", thing)))):
                self.assertIs(is_condition(SHOP, around, both=True), False, thing)

    def test_words_around(self):
        for thing in (("and",), ("or",), ("and", ALONE), ("or", ALONE, ALONE, ALONE), ("not", ALONE), ("not", ("and",)),
                      ("or", ("not", ("or",)), ("and", ALONE, ("or", ALONE))), deep(ALONE, 8), deep(ALONE, 30)):
            self.assertIs(is_condition(SHOP, thing), True)
        for thing in (("not",), ("not", ALONE, ALONE), ("and", ()), ("or", "never"), ("always",), ["and"], ["and", ALONE],
                      ("and", [ALONE]), ("if", ALONE, ALONE, ALONE), ("not", "less"), "always", "and", deep(None, 29),
                      deep(ALONE, 5, "none"), ("not", ["or"]), {"and": ALONE}, {}, ALONE[0], True):
            self.assertIs(is_condition(SHOP, thing), False, thing)
            self.assertIs(is_condition(SHOP, thing, both=True), False, thing)

    def test_one_record_or_two(self):
        for around in (lambda test: test, lambda test: deep(test, 7), lambda test: ("or", ALONE, ("and", test))):
            self.assertIs(is_condition(SHOP, around(BELOW)), False)
            self.assertIs(is_condition(SHOP, around(BELOW), both=True), True)
        self.assertIs(is_condition(family=SHOP, thing=ALONE, both=False), True)
        self.assertRaises(TypeError, is_condition, SHOP, BELOW, True)

    def test_bent_at_any_depth(self):
        nested = ("or", ("not", ("and", ("is", "a", "pen"), BELOW)), ("same", 1000, ("a", "pages")), ALONE, ("and",))
        alone, both = Judge(SHOP, "a"), Judge(SHOP, "ab")
        right = 0
        for thing in bent(nested, PARTS):
            right += both.is_condition(thing)
            self.assertIs(is_condition(SHOP, thing, both=True), both.is_condition(thing), thing)
            self.assertIs(is_condition(SHOP, thing), alone.is_condition(thing), thing)
        self.assertGreater(right, 100)

    def test_other_families(self):
        self.assertIs(is_condition(TIMES, ALONE), False)
        self.assertIs(is_condition(WORDY, ("is", "a", "and")), True)
        self.assertIs(is_condition(WORDY, ("and", "is", "and")), False)
        self.assertIs(is_condition(WORDY, ("same", ("a", "is"), ("a", "or"))), True)


class IsComparison(unittest.TestCase):
    def test_ordinary_ones(self):
        for thing in ("less", "alike", "greater", PRICES, ("if", ("and",), "less", "less"), ("if", BELOW, PRICES, PRICES)):
            self.assertIs(is_comparison(SHOP, thing), True)
        self.assertIs(is_comparison(family=SHOP, thing="less"), True)

    def test_wrong_ones(self):
        for thing in (*ODD, "same", "yes", "no", "other", "Less", "less ", "if", ["less"], ("less",), BELOW, ("if",),
                      ("if", BELOW, "less"), ("if", BELOW, "less", "less", "less"), ["if", BELOW, "less", "alike"],
                      ("if", "less", BELOW, "less"), ("if", BELOW, "yes", "no"), ("if", BELOW, "less", ("not", "less")),
                      ("when", BELOW, "less", "alike"), ("if", ALONE[1:], "less", "alike"), ("if", "always", "less", "less"),
                      ("if", BELOW, BELOW, "less"), (True, BELOW, "less", "less"), ("if", None, None, None), SHOP):
            self.assertIs(is_comparison(SHOP, thing), False, thing)

    def test_bent_at_any_depth(self):
        judge = Judge(SHOP, "ab")
        right = 0
        for thing in bent(("if", ("or", BELOW, ("not", ALONE)), ("if", ("and",), "alike", "greater"), "less"), PARTS):
            right += judge.is_comparison(thing)
            self.assertIs(is_comparison(SHOP, thing), judge.is_comparison(thing), thing)
        self.assertGreater(right, 50)

    def test_deep_ones(self):
        thing = "alike"
        for _ in range(30):
            thing = ("if", deep(BELOW, 8), "less", thing)
        self.assertIs(is_comparison(SHOP, thing), True)
        self.assertEqual(says(SHOP, thing, ("ware", (2,)), ("ware", (1,))), "alike")


class Holds(unittest.TestCase):
    def test_fields_that_a_record_does_not_have(self):
        pen, book = ("pen", (700, 2500)), ("book", (90, 5000))
        for test in (("less", ("a", "pages"), 1000), ("less", -1000, ("a", "pages")), ("same", ("a", "pages"), 0),
                     ("same", ("a", "pages"), ("a", "pages"))):
            self.assertIs(holds(SHOP, test, pen), False)
            self.assertIs(holds(SHOP, ("not", test), pen), True)
        self.assertIs(holds(SHOP, ("same", ("a", "pages"), ("a", "pages")), book), True)
        self.assertIs(holds(SHOP, ("less", ("a", "cost"), ("a", "price")), book), False)
        self.assertIs(holds(SHOP, ("less", ("a", "price"), ("a", "cost")), book), False)
        self.assertIs(holds(SHOP, ("same", ("a", "price"), ("a", "cost")), book), False)

    def test_kinds(self):
        wares = {"ware": ("ware", (1,)), "book": ("book", (1, 1)), "pen": ("pen", (1, 1))}
        for kind, heirs in (("ware", ("ware", "book", "pen")), ("book", ("book",)), ("pen", ("pen",))):
            for name, record in wares.items():
                self.assertIs(holds(SHOP, ("is", "a", kind), record), name in heirs)

    def test_limits(self):
        for value, results in ((-2001, "tff"), (-2000, "ftf"), (-1999, "fft")):
            record = ("ware", (value,))
            found = [holds(SHOP, test, record) for test in (
                ("less", ("a", "price"), -2000), ("same", -2000, ("a", "price")), ("less", -2000, ("a", "price")))]
            self.assertEqual("".join(str(one)[0].lower() for one in found), results)
        self.assertIs(holds(SHOP, ("same", ("a", "price"), 0), ("ware", (0,))), True)
        self.assertIs(holds(SHOP, ("less", ("a", "price"), 0), ("ware", (-10 ** 29,))), True)

    def test_empty_words(self):
        self.assertIs(holds(SHOP, ("and",), RECORDS[0]), True)
        self.assertIs(holds(SHOP, ("or",), RECORDS[0]), False)
        self.assertIs(holds(SHOP, ("not", ("or",)), RECORDS[0]), True)

    def test_all_sorts(self):
        choice = Random(20)
        for family, records in ((SHOP, RECORDS), (WORDY, WORDY_RECORDS)):
            objects = [(record, object_of(family, record)) for record in records]
            tests = tests_of(family, "a")
            conditions = tests + [condition_from(choice, tests, 3) for _ in range(300)]
            for condition in conditions:
                for record, made in objects:
                    self.assertIs(holds(family, condition, record), told(condition, made, made))

    def test_errors(self):
        for condition in (None, "always", BELOW, ("not",), ["and"], ("less", ("a", "price"), True), [], {}, ("is", "a", [])):
            for record in (RECORDS[0], None, ("ware", [1])):
                with self.assertRaises(BadCondition) as caught:
                    holds(SHOP, condition, record)
                self.assertIs(caught.exception.thing, condition)
        for record in (None, (), "ware", ["ware", (1,)], ("ware", (True,)), ("ware", (1, 2)), {}, [], ("span", (1, 2))):
            with self.assertRaises(NotRecord) as caught:
                holds(SHOP, ("and",), record)
            self.assertIs(caught.exception.thing, record)

    def test_by_name(self):
        self.assertIs(holds(record=RECORDS[0], condition=("and",), family=SHOP), True)


WORDY_RECORDS = (("and", (1, 2)), ("always", (2, 1000)), ("not", (1, 2, 3, 4, 5)), ("not", (0, 0, 1000, 0, 1000)),
                 ("then", ()), ("less", (7,)), ("a", (1000, 1000, 1000, 999, 1001, -3000)))


class Says(unittest.TestCase):
    def test_ordinary_ones(self):
        low, high = ("pen", (700, 2500)), ("book", (90, 5000))
        self.assertEqual([says(SHOP, PRICES, low, high), says(SHOP, PRICES, high, low), says(SHOP, PRICES, low, low)],
                         ["less", "greater", "alike"])
        self.assertEqual(says(SHOP, ("if", ("less", ("a", "cost"), ("b", "cost")), "less", "greater"), low, high), "greater")
        self.assertEqual(says(SHOP, ("if", ("is", "b", "book"), "less", "alike"), low, high), "less")
        self.assertEqual(says(SHOP, ("if", ("is", "a", "book"), "less", "alike"), low, high), "alike")
        self.assertEqual(says(other=high, one=low, comparison="greater", family=SHOP), "greater")

    def test_all_sorts(self):
        choice = Random(21)
        for family, records in ((SHOP, RECORDS), (WORDY, WORDY_RECORDS)):
            objects = [(record, object_of(family, record)) for record in records]
            tests = tests_of(family, "ab")
            trees = [("if", test, "less", "greater") for test in tests]
            trees += [tree_from(choice, tests, 4) for _ in range(200)]
            for tree in trees:
                for one, made in objects:
                    for other, second in objects:
                        self.assertEqual(says(family, tree, one, other), said(tree, made, second))

    def test_errors(self):
        right = RECORDS[0]
        for comparison in (None, "yes", BELOW, ["if"], ("if", BELOW, "less", "yes"), [], {}, True):
            for one, other in ((right, right), (None, right), (right, None)):
                with self.assertRaises(BadComparison) as caught:
                    says(SHOP, comparison, one, other)
                self.assertIs(caught.exception.thing, comparison)
        for wrong in (None, ("ware", (True,)), ("ware", [1]), [], {}, "ware", ("ware", (1, 1))):
            for pair in ((wrong, right), (right, wrong), (wrong, ["later"])):
                with self.assertRaises(NotRecord) as caught:
                    says(SHOP, "alike", *pair)
                self.assertIs(caught.exception.thing, wrong)


if __name__ == "__main__":
    unittest.main()
