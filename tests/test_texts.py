"""Texts of conditions, comparisons and programs, and the way back."""

import unittest
from random import Random

from keybehind.conditions import is_comparison, is_condition, read_comparison, read_condition, written
from keybehind.errors import InvalidText
from keybehind.families import Family
from tests.helpers import ODD, SHOP, TIMES, WORDY, bent_texts, deep
from tests.samples import condition_from, tests_of, tree_from

TEXTS = {
    "a is pen": ("is", "a", "pen"),
    "b is ware": ("is", "b", "ware"),
    "a.price < b.price": ("less", ("a", "price"), ("b", "price")),
    "b.cost == a.price": ("same", ("b", "cost"), ("a", "price")),
    "a.pages < 0": ("less", ("a", "pages"), 0),
    "-2000 == b.pages": ("same", -2000, ("b", "pages")),
    "1000000000000000 < a.cost": ("less", 10 ** 15, ("a", "cost")),
    "always": ("and",),
    "never": ("or",),
    "not always": ("not", ("and",)),
    "not not a is pen": ("not", ("not", ("is", "a", "pen"))),
    "(and a is pen)": ("and", ("is", "a", "pen")),
    "(or never)": ("or", ("or",)),
    "(a is pen and b is pen)": ("and", ("is", "a", "pen"), ("is", "b", "pen")),
    "(a is pen or never or a.cost < 1000)": ("or", ("is", "a", "pen"), ("or",), ("less", ("a", "cost"), 1000)),
    "not (not a is pen and always)": ("not", ("and", ("not", ("is", "a", "pen")), ("and",))),
    "((and never) or (always and always))": ("or", ("and", ("or",)), ("and", ("and",), ("and",))),
    "(and (or (a is pen and never)))": ("and", ("or", ("and", ("is", "a", "pen"), ("or",)))),
}
TREES = {
    "less": "less",
    "alike": "alike",
    "greater": "greater",
    "if always then less else alike": ("if", ("and",), "less", "alike"),
    "if a.price < b.price then less else if b.price < a.price then greater else alike":
        ("if", TEXTS["a.price < b.price"], "less", ("if", ("less", ("b", "price"), ("a", "price")), "greater", "alike")),
    "if a is pen then if (and never) then less else alike else greater":
        ("if", ("is", "a", "pen"), ("if", ("and", ("or",)), "less", "alike"), "greater"),
}
WRONG = ("", " ", "\n", "a", "a is", "is pen", "a is pen ", " a is pen", "a  is pen", "a is  pen", "a is pen\n", "\na is pen",
         "a\nis pen", "A is pen", "a is Pen", "a is cost", "c is pen", "a.price is pen", "a is a.pen", "a is not pen", "pen is a",
         "a.price", "a.price <", "< a.price", "a.price<b.price", "a.price < b.price < a.cost", "a.price <= b.price",
         "a.price = b.price", "a.price > b.price", "a.price != 0", "a.price < b.pages", "a. price < 0", "a .price < 0",
         "a.price.cost < 0", "a. < 0", ".price < 0", "price < 0", "c.price < 0", "a.money < 0", "a.Price < 0", "aprice < 0",
         "0 < 1000", "0 == 0", "a.price < 1", "a.price < 999", "a.price < 00", "a.price < -0", "a.price < +1000",
         "a.price < 01000", "a.price < --1000", "a.price < - 1000", "a.price < 1_000", "a.price < 1000.", "a.price < 1e3",
         "a.price < 1,000", "a.price < 1000-", "a.price < -", "a.price < True", "a.price < None", "a.price < ()",
         "a.price < 0x3e8", "a.price < -01000", "a.price < 10 00", "a.price < ''",
         "not", "not not", "notalways", "not a is pen b is pen", "always always", "always and always", "always or never",
         "(always)", "(a is pen)", "()", "(", ")", "(and)", "(or)", "( and always)", "(and always )", "(and  always)",
         "(andalways)", "(and always and always)", "(and always never)", "(always and)", "(and and always)", "((and always))",
         "(always and never or always)", "(always or never and always)", "(always and never", "always and never)",
         "(always and never))", "((always and never)", "( always and never)", "(always and never )", "(always  and never)",
         "(always and  never)", "(always) and (never)", "(always, never)", "(not)", "(not always)", "not(and always)",
         "(always AND never)", "(always and not)", "(always nor never)", "[always and never]", "(always not never)",
         "(is)", "if", "then", "less then", "and", "or", "true", "True")
WRONG_TREES = ("Less", "less ", " less", "same", "yes", "no", "other", "if", "if always", "if always then", "if always then less",
               "if always then less else", "if always less else alike", "if always then less alike", "then less else alike",
               "if always then less else alike ", "if always then less else alike else alike", "if less then less else less",
               "if always then always else less", "if always then less else never", "if always then yes else no",
               "if  always then less else alike", "if always then less  else alike", "if always then less else\nalike",
               "if always then (less) else alike", "(if always then less else alike)", "if (always) then less else alike",
               "if always then else less", "if then less else alike", "if always then less if never then less else alike",
               "If always then less else alike", "if always then less otherwise alike", "if not then less else alike",
               "if a is pen and b is pen then less else alike", "less less", "if always thenless else alike", "less\n")


class Written(unittest.TestCase):
    def test_conditions(self):
        for text, condition in TEXTS.items():
            self.assertEqual(written(condition), text)

    def test_comparisons(self):
        for text, comparison in TREES.items():
            self.assertEqual(written(comparison), text)
        self.assertEqual(written(thing="alike"), "alike")

    def test_programs(self):
        below = TEXTS["a.price < b.price"]
        for text, program in (("yes", "yes"), ("no", "no"), ("other", "other"),
                              ("if a.price < b.price then yes else no", ("if", below, "yes", "no")),
                              ("if never then other else if (and a is pen) then no else yes",
                               ("if", ("or",), "other", ("if", ("and", ("is", "a", "pen")), "no", "yes")))):
            self.assertEqual(written(program), text)


class WayBack(unittest.TestCase):
    def assert_same(self, one, other):
        self.assertEqual(repr(one), repr(other))

    def test_conditions(self):
        for text, condition in TEXTS.items():
            self.assert_same(read_condition(SHOP, text, both=True), condition)
            if "b" in text:
                self.assertRaises(InvalidText, read_condition, SHOP, text)
                self.assertRaises(InvalidText, read_condition, SHOP, text, both=False)
            else:
                self.assert_same(read_condition(SHOP, text), condition)
                self.assert_same(read_condition(text=text, family=SHOP, both=False), condition)
        self.assertRaises(TypeError, read_condition, SHOP, "always", True)

    def test_comparisons(self):
        for text, comparison in TREES.items():
            self.assert_same(read_comparison(SHOP, text), comparison)
        self.assert_same(read_comparison(text="less", family=SHOP), "less")

    def test_all_tests(self):
        for family in (SHOP, TIMES, WORDY):
            texts = {}
            for test in tests_of(family, "ab"):
                text = written(test)
                self.assert_same(read_condition(family, text, both=True), test)
                self.assert_same(read_comparison(family, f"if {text} then less else alike"), ("if", test, "less", "alike"))
                texts[text] = test
            self.assertEqual(len(texts), len(tests_of(family, "ab")))

    def test_all_sorts(self):
        choice = Random(22)
        for family in (SHOP, TIMES, WORDY):
            tests = tests_of(family, "ab")
            for _ in range(500):
                condition = condition_from(choice, tests, 4)
                self.assert_same(read_condition(family, written(condition), both=True), condition)
                tree = tree_from(choice, tests, 4)
                self.assert_same(read_comparison(family, written(tree)), tree)

    def test_names_that_are_words(self):
        for text, condition in (
                ("a is and", ("is", "a", "and")), ("(a is and and b is and)", ("and", ("is", "a", "and"), ("is", "b", "and"))),
                ("not a is not", ("not", ("is", "a", "not"))), ("a.is == a.or", ("same", ("a", "is"), ("a", "or"))),
                ("(or a is always)", ("or", ("is", "a", "always"))), ("a is a", ("is", "a", "a")), ("b is then", ("is", "b", "then")),
                ("(b is a or a is less or a is then)", ("or", ("is", "b", "a"), ("is", "a", "less"), ("is", "a", "then"))),
                ("a.not < b.if", ("less", ("a", "not"), ("b", "if"))), ("a.a < 0", ("less", ("a", "a"), 0))):
            self.assertEqual(written(condition), text)
            self.assert_same(read_condition(WORDY, text, both=True), condition)
            tree = ("if", condition, "less", ("if", condition, "alike", "greater"))
            self.assert_same(read_comparison(WORDY, written(tree)), tree)
        self.assertRaises(InvalidText, read_condition, WORDY, "a is or")
        family = Family((), ("else", (), ()), ("is", (), ()), ("never", (), ()), ("or", (), ()))
        text = "if (a is or or a is else) then if not b is never then less else alike else if a is is then less else greater"
        self.assertEqual(written(read_comparison(family, text)), text)

    def test_deep_ones(self):
        inner = TEXTS["a is pen"]
        tree = "alike"
        for many in range(30):
            for word in ("not", "and", "or"):
                condition = deep(inner, many, word)
                self.assert_same(read_condition(SHOP, written(condition)), condition)
            self.assert_same(read_comparison(SHOP, written(tree)), tree)
            tree = ("if", inner, tree, "less") if many % 2 else ("if", inner, "greater", tree)

    def test_long_ones(self):
        condition = ("or", *[TEXTS["a.pages < 0"]] * 250)
        self.assert_same(read_condition(SHOP, written(condition)), condition)
        limit = -10 ** 3000
        self.assert_same(read_condition(SHOP, f"a.pages < {limit}"), ("less", ("a", "pages"), limit))


class Wrong(unittest.TestCase):
    def test_no_strings(self):
        for thing in (*ODD, *TEXTS.values(), *TREES.values(), b"less", SHOP):
            self.assertRaises(InvalidText, read_condition, SHOP, thing)
            self.assertRaises(InvalidText, read_condition, SHOP, thing, both=True)
            if not (isinstance(thing, str) and thing in TREES):
                self.assertRaises(InvalidText, read_comparison, SHOP, thing)

    def test_wrong_conditions(self):
        for text in (*WRONG, *WRONG_TREES, *TREES):
            self.assertRaises(InvalidText, read_condition, SHOP, text)
            self.assertRaises(InvalidText, read_condition, SHOP, text, both=True)

    def test_wrong_comparisons(self):
        for text in (*WRONG, *WRONG_TREES, *TEXTS, *[f"if {text} then less else alike" for text in (*WRONG, *TREES)]):
            self.assertRaises(InvalidText, read_comparison, SHOP, text)

    def test_long_and_deep_ones(self):
        for text in ("(" * 4000, ")" * 4000, "not " * 1000, " " * 4000, "if " * 1333, "(and " * 800, "1" * 4000,
                     "a.price < " + "1" * 3990, "(always and " * 300, "if always then less else " * 160, "." * 4000,
                     "a.price < " + "0" * 3990, "-" * 4000, "not " * 130 + "always more"):
            self.assertRaises(InvalidText, read_condition, SHOP, text, both=True)
            self.assertRaises(InvalidText, read_comparison, SHOP, text)

    def test_bent_conditions(self):
        read = 0
        for text in TEXTS:
            for other in bent_texts(text, "ab.0-()< \n="):
                try:
                    thing = read_condition(SHOP, other, both=True)
                except InvalidText:
                    self.assertNotIn(other, TEXTS)
                    continue
                read += 1
                self.assertIs(is_condition(SHOP, thing, both=True), True)
                self.assertEqual(written(thing), other)
        self.assertGreater(read, 100)

    def test_bent_comparisons(self):
        read = 0
        for text in (*TREES, "if (a.price < -1000 or not b is pen) then less else if (and never) then alike else greater"):
            for other in bent_texts(text, "ab.0-()< \n="):
                try:
                    thing = read_comparison(SHOP, other)
                except InvalidText:
                    self.assertNotIn(other, TREES)
                    continue
                read += 1
                self.assertIs(is_comparison(SHOP, thing), True)
                self.assertEqual(written(thing), other)
        self.assertGreater(read, 20)


if __name__ == "__main__":
    unittest.main()
