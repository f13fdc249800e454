"""Broken comparisons: whatever breaks them, wherever it lies, one to three records are named that do."""

import random
import unittest
from itertools import combinations_with_replacement, product

from keybehind.breaking import broken_anywhere, three_of, verdict
from keybehind.cells import number_of_cells
from keybehind.charts import Chart
from keybehind.conditions import read_comparison
from keybehind.errors import Broken, NotOrder, TooMany
from keybehind.families import Family
from keybehind.judging import broken_holds, judge, key_holds
from keybehind.orders import Order
from keybehind.reading import read_and_named
from keybehind.sayers import Comparing
from tests import reference
from tests.comparisons import apart, by, first, swapped, under
from tests.drawn import LIMITS, any_comparison, any_family
from tests.reference import all_ways, is_order, table

TWO = Family((("x", "m"), ("y", "m")), ("k", (), ("x", "y")))
THREE = Family((("x", "m"),), ("k", (), ("x",)), ("l", (), ("x",)), ("o", (), ("x",)))


def same(who):
    return ("same", (who, "x"), (who, "y"))


# Of two records with equal values the greater ones are less; of one such and one other, both are less or greater.
EVEN = (
    "if",
    ("and", same("a"), same("b")),
    by("-y"),
    (
        "if",
        same("a"),
        ("if", ("less", ("a", "y"), ("b", "y")), "greater", "less"),
        ("if", same("b"), "greater", "alike"),
    ),
)


def ring(yes):
    """Each of three kinds is less than the next one, if a condition holds; in each kind by the values."""
    tree = "alike"
    for one, other in (("k", "l"), ("l", "o"), ("o", "k")):
        condition = ("and", ("is", "a", one), ("is", "b", other), yes)
        tree = ("if", condition, "less", ("if", swapped(condition), "greater", tree))
    return ("if", ("or", *[("and", ("is", "a", kind), ("is", "b", kind)) for kind in "klo"]), by("x"), tree)


# Texts of families and of comparisons. With these no two cells are enough: each two of them are in order.
BY_THREE_CELLS = (
    (
        "field x m\nfield y m\nkind k : ; x y",
        "if ((0 < a.y and 0 < b.y) and (and b.x == a.x)) then if (a.x == a.y and not b.x == b.y) then less else if (b.x == "
        "b.y and not a.x == a.y) then greater else alike else if a.x < b.x then less else if b.x < a.x then greater else "
        "alike",
    ),
    (
        "field x m\nfield y m\nkind k : ; x y",
        "if a.y < b.y then less else if b.y < a.y then greater else if (not a.x == a.y and not b.x == b.y) then if b.y < a.y "
        "then less else if a.y < b.y then greater else alike else if a.x < b.x then less else if b.x < a.x then greater "
        "else alike",
    ),
    (
        "field x m\nfield y m\nkind k : ; x\nkind l : ; y\nkind o : ; x y",
        "if a.x < b.x then less else if b.x < a.x then greater else if (a.x == a.y and not b.x == b.y) then less else if (b.x "
        "== b.y and not a.x == a.y) then greater else if (a is l and not b is l) then less else if (b is l and not a is l) "
        "then greater else alike",
    ),
    (
        "field w n\nfield x m\nfield y m\nkind k : ; w x y",
        "if not (b.x < b.y or 0 == a.w) then if not (a.x < a.y or 0 == b.w) then if b.y < a.y then less else if a.y < b.y "
        "then greater else alike else greater else if not (a.x < a.y or 0 == b.w) then less else if b.y < a.y then less "
        "else if a.y < b.y then greater else alike",
    ),
    (
        "field x m\nkind k : ; x\nkind l : ; x\nkind o : ; x",
        "if (a is k and b is o) then less else if (b is k and a is o) then greater else if a.x < b.x then less else if b.x < "
        "a.x then greater else alike",
    ),
)
# With these it counts how the first two of three records lie, whatever is said of the two.
BY_THREE_RECORDS = (
    (
        "field x m\nfield y m\nfield z m\nkind k : ; x y z",
        "if (a.x == a.y or b.z < b.y) then if (b.x == b.y or a.z < a.y) then if a.y < b.y then less else if b.y < a.y then "
        "greater else alike else greater else if (b.x == b.y or a.z < a.y) then less else if a.y < b.y then less else if "
        "b.y < a.y then greater else alike",
    ),
    (
        "field x m\nfield y m\nkind k : ; x y\nkind l : ; x y\nkind o : k ; x",
        "if (or (b.y == b.x or a is l or a is o)) then if (or (a.y == a.x or b is l or b is o)) then if b.y < a.y then less "
        "else if a.y < b.y then greater else alike else if not not b.y == b.y then less else greater else if (or (a.y == "
        "a.x or b is l or b is o)) then if not not b.y == b.y then greater else less else if b.y < a.y then less else if "
        "a.y < b.y then greater else alike",
    ),
)


class Case(unittest.TestCase):
    def assert_broken(self, family, comparison):
        """Checks the records that are named for a broken comparison, and returns them."""
        word, records = judge(family, comparison)
        self.assertEqual(word, "broken")
        self.assertIs(type(records), tuple)
        self.assertIn(len(records), (1, 2, 3))
        self.assertTrue(all(family.is_record(record) for record in records))
        self.assertTrue(reference.breaks(family, comparison, records))
        self.assertIs(broken_holds(family, comparison, records), True)
        with self.assertRaises(NotOrder) as caught:
            Order(family, comparison)
        self.assertIs(broken_holds(family, comparison, caught.exception.records), True)
        self.assertIs(type(caught.exception.__cause__), Broken)
        return records


class Drawn(Case):
    def test_whatever_is_told_to_be_broken_is_broken(self):
        choice = random.Random(51)
        found = {1: 0, 2: 0, 3: 0}
        orders = 0
        for _ in range(4000):
            family, limits = any_family(choice), choice.choice(LIMITS)
            comparison = any_comparison(choice, family, limits)
            try:
                word, records = judge(family, comparison)
            except TooMany:
                continue
            if word == "key":
                orders = orders + 1
                continue
            self.assertIn(len(records), (1, 2, 3), (family.text, comparison))
            self.assertIs(broken_holds(family, comparison, records), True, (family.text, comparison))
            self.assertTrue(reference.breaks(family, comparison, records))
            found[len(records)] = found[len(records)] + 1
        self.assertGreater(min(found.values()), 200)
        self.assertGreater(orders, 1000)

    def test_just_what_is_an_order_has_a_key(self):
        choice = random.Random(52)
        found = {True: 0, False: 0}
        while min(found.values()) < 60:
            family = any_family(choice)
            records = all_ways(family, (), 3)
            if len(records) > 250:
                continue
            comparison = any_comparison(choice, family, ())
            due = is_order(table(family, comparison, records))
            word, key = judge(family, comparison)
            self.assertEqual(word == "key", due, (family.text, comparison))
            if due:
                self.assertIs(key_holds(family, comparison, key), True)
            found[due] = found[due] + 1


class Anywhere(Case):
    def test_beside_looking_everywhere(self):
        # What is told by two cells, or by three of them, beside all rows of three cells.
        choice = random.Random(53)
        found = {"key": 0, "broken": 0}
        while min(found.values()) < 40:
            family, limits = any_family(choice), choice.choice(((), (), (0,)))
            comparison = any_comparison(choice, family, limits)
            reads, named = read_and_named(family, comparison)
            if number_of_cells(family, reads, named) > 14:
                continue
            chart = Chart(family, reads, named)
            sayer = Comparing(chart, comparison)
            word, records = verdict(chart, sayer)
            if word == "broken" and len(records) < 3:
                continue
            everywhere = broken_anywhere(chart, sayer, list(range(len(chart.cells))))
            self.assertEqual(bool(everywhere), word == "broken", (family.text, comparison))
            if everywhere and self.unbroken_by_two(family, comparison, everywhere):
                self.assertTrue(reference.breaks(family, comparison, everywhere))
                found["broken"] = found["broken"] + 1
            elif word == "plain":
                found["key"] = found["key"] + 1

    def test_beside_all_records_that_have_three_cells(self):
        # Also where it counts how the first two of three records lie, whatever is said of the two.
        text = (
            "if (not b.y < b.x and (a.y == a.y and a.x < a.y) and b.x == b.x) then if (not a.y < a.x and (b.y == b.y and "
            "b.x < b.y) and a.x == a.x) then if b.y < a.y then less else if a.y < b.y then greater else alike else less "
            "else if (not a.y < a.x and (b.y == b.y and b.x < b.y) and a.x == a.x) then greater else if b.y < a.y then "
            "less else if a.y < b.y then greater else alike"
        )
        choice = random.Random(54)
        records = reference.records_with(TWO, range(6))
        comparisons = [read_comparison(TWO, text), EVEN, by("x", "-y")]
        found = {True: 0, False: 0}
        while min(found.values()) < 150:
            comparison = comparisons.pop(0) if comparisons else any_comparison(choice, TWO, ())
            reads, named = (("k", "x"), ("k", "y")), ()
            words = table(TWO, comparison, records)
            if any(words[one][other] != reference.TURNED[words[other][one]] for one in range(36) for other in range(36)):
                continue
            chart = Chart(TWO, reads, named)
            at_cell = [chart.numbers[reference.cell(TWO, reads, named, record)] for record in records]
            due = set()
            for one, other, third in product(range(36), repeat=3):
                row = (words[one][other], words[other][third])
                if "greater" not in row and words[one][third] != ("alike" if row == ("alike", "alike") else "less"):
                    due.add(tuple(sorted((at_cell[one], at_cell[other], at_cell[third]))))
            for cells in combinations_with_replacement(range(3), 3):
                three = three_of(chart, Comparing(chart, comparison), cells)
                self.assertEqual(bool(three), cells in due, (comparison, cells))
                self.assertTrue(not three or reference.breaks(TWO, comparison, three))
                found[bool(three)] = found[bool(three)] + 1

    def unbroken_by_two(self, family, comparison, records):
        return not any(reference.breaks(family, comparison, (r, s)) for r in records for s in records)


class Texts(Case):
    def test_by_three_cells(self):
        for family_text, text in BY_THREE_CELLS:
            family = Family.read(family_text)
            records = self.assert_broken(family, read_comparison(family, text))
            self.assertEqual(len(records), 3)

    def test_by_three_records(self):
        for family_text, text in BY_THREE_RECORDS:
            family = Family.read(family_text)
            comparison = read_comparison(family, text)
            self.assert_broken(family, comparison)
            chart = Chart(family, *read_and_named(family, comparison))
            records = broken_anywhere(chart, Comparing(chart, comparison), list(range(len(chart.cells))))
            self.assertTrue(reference.breaks(family, comparison, records))


class Apart(Case):
    def test_apart_from_where_the_search_begins(self):
        self.assert_broken(TWO, EVEN)
        for names in (("is", "less"), ("p", "q"), ("zz", "aa")):
            one, other = sorted(names)
            family = Family(((one, "a"), (other, "a")), ("k", (), (one, other)))
            self.assert_broken(family, renamed(EVEN, {"x": one, "y": other}))
            self.assert_broken(family, renamed(EVEN, {"x": other, "y": one}))

    def test_beside_limits(self):
        for limit in (0, 1000, -5000):
            for comparison in (
                ("if", ("and", under(limit, "x"), ("less", ("b", "x"), limit)), EVEN, by("x")),
                apart(under(limit, "y"), EVEN, by("x", "y")),
                apart(("same", ("a", "x"), limit), by("y"), EVEN),
                first(("same", ("a", "y"), limit), EVEN),
            ):
                self.assert_broken(TWO, comparison)

    def test_broken_by_two_in_one_place_alone(self):
        # Only two records between two limits, one of them even, are said to be less both ways round.
        place = ("and", ("less", 0, ("a", "x")), under(1000, "x"), same("a"), ("less", ("b", "x"), ("b", "y")))
        for limits in ((), (2000, 3000)):
            comparison = ("if", place, "less", by("x", "y"))
            for limit in limits:
                comparison = first(("same", ("a", "x"), limit), comparison)
            records = self.assert_broken(TWO, comparison)
            self.assertEqual(len(records), 2)

    def test_three_kinds(self):
        self.assertEqual(sorted(kind for kind, _ in self.assert_broken(THREE, ring(("and",)))), ["k", "l", "o"])
        for yes in (under(0, "x"), ("less", 0, ("b", "x")), ("and", under(0, "x"), ("less", ("b", "x"), 0))):
            self.assertEqual(len(self.assert_broken(THREE, ring(yes))), 3)
        two_of_them = first(("is", "a", "k"), by("x"))
        self.assertEqual(judge(THREE, two_of_them)[0], "key")

    def test_three_records_of_one_kind(self):
        middle = ("and", ("less", 0, ("a", "x")), under(1000, "x"))
        for comparison in (
            ("if", ("and", middle, swapped(middle)), "alike", by("y", "x")),
            ("if", ("and", middle, ("not", swapped(middle))), "alike", ("if", ("and", swapped(middle), ("not", middle)),
                                                                        "alike", by("x"))),
            ("if", ("less", ("a", "x"), ("b", "y")), "less", ("if", ("less", ("b", "x"), ("a", "y")), "greater", "alike")),
        ):
            self.assert_broken(TWO, comparison)


def renamed(thing, names):
    """A comparison with other names of fields."""
    if isinstance(thing, tuple) and len(thing) == 2 and thing[0] in ("a", "b"):
        return (thing[0], names[thing[1]])
    return tuple(renamed(part, names) for part in thing) if isinstance(thing, tuple) else thing


if __name__ == "__main__":
    unittest.main()
