"""How long some acts take: told by the number of calls of functions, which is the same on every machine."""

import sys
import unittest

from keybehind.errors import TooMany
from keybehind.families import Family
from keybehind.judging import broken_holds, judge
from keybehind.orders import Order
from keybehind.runs import obstacle, runs
from tests import reference
from tests.comparisons import apart, by, first, under, where
from tests.reference import key_word

ITEMS = Family((("x", "m"), ("y", "m")), ("item", (), ("x", "y")))
SHELF = Family(
    (("a", "m"), ("b", "m")), ("book", (), ("a", "b")), ("pen", (), ("a", "b")), ("kind", (), ("a", "b"))
)
ONE = Family((("a", "m"), ("b", "m")), ("k", (), ("a", "b")))
SIX = Family((("x", "m"), ("y", "m"), ("z", "m")), *[(kind, (), ("x", "y", "z")) for kind in "klmnop"])
READING = (
    "or",
    ("and",),
    ("same", ("a", "a"), ("a", "a")),
    ("same", ("a", "b"), ("a", "b")),
    ("less", ("a", "a"), -2000),
    ("less", ("a", "a"), -1000),
)


def beside_limits(limits):
    """A comparison that is broken by records with one limit as both values, and lower ones."""
    mine = ("and", ("same", ("a", "x"), limits[0]), ("same", ("a", "y"), limits[0]))
    yours = ("and", ("same", ("b", "x"), limits[0]), ("same", ("b", "y"), limits[0]))
    low = ("and", ("less", ("a", "x"), ("a", "y")), ("less", ("a", "y"), limits[0]))
    inner = ("if", mine, ("if", yours, "alike", "less"), ("if", yours, ("if", low, "less", "greater"), by("x", "y")))
    never = ("and", ("less", ("a", "x"), ("a", "x")), ("or", *[("less", ("a", "y"), limit) for limit in limits]))
    return ("if", never, "alike", inner)


def limit_by_limit(field, limits, rest="alike"):
    """Those on the first limit come first, then those on the second one, and so on."""
    tree = rest
    for limit in limits[::-1]:
        mine, yours = ("same", ("a", field), limit), ("same", ("b", field), limit)
        tree = ("if", ("and", mine, yours), "alike", ("if", mine, "less", ("if", yours, "greater", tree)))
    return tree


def calls_in(action):
    """How many functions are called."""
    found = [0]

    def count(frame, event, argument):
        found[0] = found[0] + (event == "call")

    sys.setprofile(count)
    try:
        action()
    finally:
        sys.setprofile(None)
    return found[0]


class Speed(unittest.TestCase):
    def assert_short(self, most, action, times=100):
        """Checks that an act calls no more functions than that, and does it some hundred times."""
        self.assertLess(calls_in(action), most)
        for _ in range(times):
            action()

    def test_broken_beside_limits(self):
        for limits, most in (([7000, 8000], 5000), ([7000, 8000, 9000], 8000)):
            comparison = beside_limits(limits)
            word, records = judge(ITEMS, comparison)
            self.assertEqual(word, "broken")
            self.assertIs(broken_holds(ITEMS, comparison, records), True)
            self.assertTrue(reference.breaks(ITEMS, comparison, records))
            self.assertLess(calls_in(lambda: judge(ITEMS, comparison)), most)
            for _ in range(150):
                self.assertIs(broken_holds(ITEMS, comparison, judge(ITEMS, comparison)[1]), True)

    def test_reading_a_condition(self):
        flat = Order(SHELF, "alike")
        whole = Order.by(SHELF, "a", "-b")
        self.assertEqual([flat[READING], flat.changed(READING, flat)], [flat, flat])
        self.assertEqual(Order(SHELF, ("if", READING, "alike", "less")), flat)
        self.assertEqual([whole[READING], flat.changed(READING, whole)], [whole, whole])
        for most, action in (
            (5000, lambda: flat[READING]),
            (8000, lambda: flat.changed(READING, flat)),
            (5000, lambda: Order(SHELF, ("if", READING, "alike", "less"))),
            (4000, lambda: runs(flat, READING)),
            (6000, lambda: obstacle(flat, flat, READING)),
        ):
            self.assert_short(most, action)

    def test_sums(self):
        for rest in ("alike", "by"):
            one, other = [
                Order(ONE, limit_by_limit(field, limits, by(field) if rest == "by" else rest))
                for field, limits in (("a", (0, -1000, -2000)), ("b", (-1000, -2000)))
            ]
            for first_one, last_one in ((one, other), (other, one)):
                both = first_one + last_one
                for r in reference.records_with(ONE, (-2500, -2000, -1500, -1000, -500, 0, 500)):
                    for s in (("k", (0, -1000)), ("k", (-700, -2000)), ("k", (0, 3)), ("k", (-1000, -1000))):
                        said = first_one(r, s)
                        due = said if said != "alike" else last_one(r, s)
                        self.assertEqual([both(r, s), key_word(ONE, both.key, r, s)], [due, due])
                self.assert_short(5000, lambda: first_one + last_one)
            self.assert_short(4000, lambda: one & other)
            self.assert_short(4000, lambda: one.unlike(other))
            self.assert_short(4000, lambda: one <= other)

    def test_many_kinds(self):
        comparison = by("x", "-y", "z")
        order = Order.by(SIX, "x", "-y", "z")
        self.assertEqual(Order(SIX, comparison), order)
        other = Order(SIX, apart(("less", ("a", "x"), ("a", "y")), by("x", "z"), by("y", "-z")))
        self.assert_short(60000, lambda: Order(SIX, comparison), 10)
        self.assert_short(5000, lambda: order + other)
        self.assert_short(6000, lambda: order & other)
        self.assert_short(90000, lambda: order.changed(("is", "a", "k"), order), 10)
        self.assert_short(6000, lambda: order[("less", ("a", "x"), ("a", "y"))])

    def test_a_hundred_cells_of_one_value(self):
        family = Family((("x", "m"),), ("k", (), ("x",)), ("o", (), ()))
        steps = [("and", ("not", under(2000 * at, "x")), under(2000 * at + 1000, "x")) for at in range(14)]
        comparison = first(("or", *steps[:7]), where(("or", *steps[7:]), "alike", "alike"))
        self.assertEqual(len(Order(family, comparison).limits), 14)
        self.assert_short(30000, lambda: Order(family, comparison), 5)
        with self.assertRaises(TooMany) as caught:
            Order(family, first(("or", *[under(1000 * at, "x") for at in range(50)])))
        self.assertEqual(caught.exception.cells, 102)

    def test_too_many_is_told_at_once(self):
        flat = Order(SHELF, "alike")
        many = ("or", READING, under(0, "a"))
        for call in (
            lambda: flat[many],
            lambda: flat.changed(many, flat),
            lambda: Order(SHELF, ("if", many, "alike", "less")),
        ):
            with self.assertRaises(TooMany) as caught:
                call()
            self.assertEqual(caught.exception.cells, 3 * 57)
            self.assertLess(calls_in(lambda: self.assertRaises(TooMany, call)), 1500)


if __name__ == "__main__":
    unittest.main()
