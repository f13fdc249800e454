"""Runs of conditions in sorted lists, rows that have them, and orders that serve others."""

import random
import unittest
from itertools import product

from keybehind.cells import cells_of
from keybehind.conditions import holds
from keybehind.errors import BadCondition, NoRow, OtherFamily, TooMany
from keybehind.families import Family
from keybehind.keys import plain
from keybehind.orders import Order
from keybehind.reading import read_and_named
from keybehind.runs import obstacle, row_with, runs
from tests import reference, samples
from tests.comparisons import ORDERS, apart, between, by, first, over, under
from tests.helpers import SHOP, TIMES, bent
from tests.reference import BARE, SHELVES, SINGLE, cells_in, records_with
from tests.samples import condition_from, tests_of
from tests.test_orders import TWO, some_records

FAMILY = Family((("x", "m"), ("y", "m"), ("z", "m"), ("w", "n")), ("k", (), ("w", "x", "y", "z")), ("o", (), ()))


def runs_by_blocks(order, condition):
    """The greatest number of runs, told by the first node of the plain key; None if there is none."""
    family = order.family
    reads, limits = read_and_named(family, condition)
    key = plain(family, order.key, reads, limits)
    spots = {}
    for record in records_with(
        family, sorted({limit + step for _, limit in key[1] for step in (-2, -1, 0, 1, 2)} | set(range(3)))
    ):
        spots.setdefault(reference.cell(family, key[0], key[1], record), set()).add(holds(family, condition, record))
    row = []
    for block in key[2]:
        met = set().union(*[spots[cell] for cell in cells_in(block)])
        if len(met) > 1:
            return None
        row.append(met == {True})
    return sum(here and not ahead for ahead, here in zip([False, *row], row))


class Case(unittest.TestCase):
    def assert_row(self, order, condition, many):
        row = row_with(order=order, condition=condition, many=many)
        self.assertIs(type(row), tuple)
        self.assertEqual(len(row), max(0, 2 * many - 1))
        for at, record in enumerate(row):
            self.assertIs(order.family.is_record(record), True)
            self.assertEqual(holds(order.family, condition, record), at % 2 == 0)
        # No record is less than any one ahead of it: that follows from those side by side.
        for one, other in zip(row, row[1:]):
            self.assertNotEqual(order(other, one), "less")
        if len(row) < 30:
            self.assertNotIn("less", [order(other, one) for at, one in enumerate(row) for other in row[at + 1 :]])

    def assert_most(self, order, condition, most):
        self.assertEqual(runs(order=order, condition=condition), most)
        self.assert_row(order, condition, 0)
        for many in range(1, (most or 0) + 1):
            self.assert_row(order, condition, many)
        if most is None:
            for many in (1, 2, 3, 50, 99, 100):
                self.assert_row(order, condition, many)
            return
        for many in {most + 1, most + 2, 100} - {most}:
            with self.assertRaises(NoRow) as caught:
                row_with(order, condition, many)
            self.assertEqual(caught.exception.most, most)


class Runs(Case):
    def test_examples(self):
        begins = Order.by(TIMES, "begin")
        for condition, most in (
            (under(2000, "begin"), 1),
            (over(2000, "begin"), 1),
            (("not", ("same", ("a", "begin"), 2000)), 2),
            (under(0, "end"), None),
            (("or",), 0),
            (("and",), 1),
            (between(0, 2000, "begin"), 1),
            (("or", between(0, 2000, "begin"), under(-3000, "begin"), over(5000, "begin")), 3),
            (("same", ("a", "begin"), ("a", "end")), None),
            (("and", ("same", ("a", "begin"), 0), under(0, "end")), None),
        ):
            self.assert_most(begins, condition, most)
            self.assert_most(-begins, condition, most)
        both = Order.by(TIMES, "begin", "end")
        # Only above one begin, at zero, lie records with the condition and without it, side by side: but there is none of them twice.
        self.assert_most(both, ("and", ("same", ("a", "begin"), 0), under(0, "end")), 1)
        self.assert_most(both, ("and", ("same", ("a", "begin"), 0), ("not", ("same", ("a", "end"), 5000))), 2)
        self.assert_most(both, under(0, "end"), None)

    def test_blocks_that_are_alike(self):
        kinds = Order.by_kinds(BARE, "both", "left", "right")
        for row, most in (((), 0), (("left",), 1), (("right",), 2), (("both",), 1), (("base",), 1)):
            self.assert_most(kinds, ("or", *[("is", "a", kind) for kind in row]), most)
        self.assert_most(Order(BARE, "alike"), ("is", "a", "both"), None)
        self.assert_most(Order(BARE, first(("is", "a", "left"))), ("is", "a", "both"), None)
        self.assert_most(Order(SINGLE, first(("is", "a", "pen"))), under(0, "price"), None)
        self.assert_most(Order(SINGLE, first(("is", "a", "pen"), by("price"))), ("is", "a", "pen"), 1)
        self.assert_most(Order(Family(()), "less"), ("and",), 0)

    def test_woven_cells(self):
        lengths = Order(SHELVES, ORDERS[-4][1])
        self.assert_most(lengths, ("is", "a", "long"), None)
        self.assert_most(lengths, ("is", "a", "flat"), None)
        self.assert_most(-lengths, ("is", "a", "flat"), None)
        self.assert_most(lengths, ("or", ("is", "a", "flat"), ("is", "a", "long")), 1)
        self.assert_most(lengths, ("less", ("a", "height"), ("a", "length")), None)
        self.assert_most(lengths, ("less", ("a", "length"), 1000), None)

    def test_between_limits(self):
        for low in (-3000, 0, 10**11):
            spot = between(low, low + 1000, "begin")
            for fields in (("begin",), ("-begin",), ("begin", "end"), ("-begin", "end")):
                order = Order.by(TIMES, *fields)
                for side in (
                    ("less", ("a", "begin"), ("a", "end")),
                    ("less", ("a", "end"), ("a", "begin")),
                    ("same", ("a", "end"), low),
                ):
                    self.assert_most(order, ("and", spot, side), None)
                    self.assert_most(order, ("and", under(low, "begin"), side), None)
                    self.assert_most(order, ("and", over(low, "begin"), ("not", side)), None)

    def test_three_values_in_one_gap(self):
        for name in "xyz":
            for sign in ("", "-"):
                order = Order.by(FAMILY, sign + name)
                for condition in (
                    ("less", ("a", "x"), ("a", "y")),
                    ("and", ("less", ("a", "x"), ("a", "y")), ("less", ("a", "y"), ("a", "z"))),
                    ("and", ("less", ("a", "z"), ("a", "y")), ("less", ("a", "y"), ("a", "x"))),
                ):
                    self.assert_most(order, condition, None)
                for gap in (over(1000, name), under(1000, name)):
                    self.assert_most(
                        order, ("and", gap, ("less", ("a", "z"), ("a", "y")), ("less", ("a", "y"), ("a", "x"))), None
                    )

    def test_two_measures(self):
        family = Family(
            (("p", "m"), ("q", "m"), ("r", "n"), ("s", "n"), ("t", "o")),
            ("k", (), ("p", "r")),
            ("l", (), ("q", "s")),
            ("j", (), ("p", "r", "t")),
        )
        for name in "prst":
            for sign in ("", "-"):
                order = Order.by(family, sign + name)
                for field, other in (("p", "r"), ("q", "s"), ("r", "p"), ("t", "r")):
                    for condition in (
                        ("and", over(5000, field), ("is", "a", "k")),
                        ("and", under(5000, field), over(-3000, other)),
                        over(5000, field),
                        under(-3000, field),
                        ("and", between(-3000, 5000, field), ("not", ("same", ("a", other), 7000))),
                    ):
                        self.assert_most(order, condition, runs_by_blocks(order, condition))

    def test_many_runs(self):
        limits = ("or", *[("same", ("a", "x"), 1000 * at) for at in range(24)])
        family = Family((("x", "m"),), ("k", (), ("x",)))
        order = Order.by(family, "x")
        self.assert_most(order, limits, 24)
        self.assert_most(order, ("not", limits), 25)
        self.assertEqual(
            runs(Order.of(family, order.key), ("not", ("or", *[("same", ("a", "x"), 1000 * at) for at in range(49)]))),
            50,
        )
        self.assert_row(-order, ("not", ("or", *[("same", ("a", "x"), 1000 * at) for at in range(49)])), 50)

    def test_of_any_orders(self):
        choice = random.Random(31)
        found = {}
        for family, limits, (order, _) in TWO:
            for _ in range(3):
                condition = condition_from(choice, tests_of(family, "a", limits), 2)
                try:
                    most = runs_by_blocks(order, condition)
                except TooMany as error:
                    for call in (lambda: runs(order, condition), lambda: row_with(order, condition, 0)):
                        with self.assertRaises(TooMany) as caught:
                            call()
                        self.assertEqual(caught.exception.cells, error.cells)
                    continue
                self.assert_most(order, condition, most)
                found[most] = found.get(most, 0) + 1
        self.assertGreater(min(found[None], found[0], found[1]), 50)

    def test_no_list_has_more(self):
        choice = random.Random(32)
        for family, limits, (order, _) in TWO[:80]:
            condition = condition_from(choice, tests_of(family, "a", limits), 1)
            row = order.row(*choice.choices(some_records(family, limits or (0,)), k=60))
            met = [holds(family, condition, record) for record in row]
            most = runs(order, condition)
            if most is not None:
                self.assertLessEqual(sum(here and not ahead for ahead, here in zip([False, *met], met)), most)

    def test_errors(self):
        order = Order.by(SHOP, "price")
        known = samples.Judge(SHOP, "a")
        for thing in bent(("or", ("is", "a", "pen"), under(0, "price"))):
            if not known.is_condition(thing):
                for call in (
                    lambda: runs(order, thing),
                    lambda: row_with(order, thing, 100),
                    lambda: obstacle(order, order, thing),
                ):
                    with self.assertRaises(BadCondition) as caught:
                        call()
                    self.assertIs(caught.exception.thing, thing)
        three = Order.by(FAMILY, "x", "y", "z")
        steps = ("or", *[under(1000 * at, "w") for at in range(4)])
        for call in (
            lambda: runs(three, steps),
            lambda: row_with(three, steps, 1),
            lambda: row_with(three, steps, 100),
            lambda: obstacle(three, three, steps),
            lambda: obstacle(Order.by(FAMILY, "x", "z"), Order.by(FAMILY, "y"), steps),
        ):
            with self.assertRaises(TooMany) as caught:
                call()
            self.assertEqual(caught.exception.cells, 9 * 13 + 1)

    def test_just_a_hundred_cells(self):
        family = Family((("x", "m"),), ("k", (), ("x",)), ("o", (), ()))
        limits = tuple(("m", 1000 * at) for at in range(49))
        cells = cells_of(family, (("k", "x"),), limits)
        order = Order.of(family, ((("k", "x"),), limits, tuple(("alike", (cell,)) for cell in cells)))
        self.assertEqual(len(cells), 100)
        for condition in (("is", "a", "k"), ("and",), ("or",), under(24000, "x"), ("not", over(3000, "x"))):
            self.assert_most(order, condition, runs_by_blocks(order, condition))
        self.assertIsNone(obstacle(order, order, under(24000, "x")))
        price = Order.by(family, "x")
        self.assertEqual(order(*obstacle(price, order, ("and",))), "less")
        with self.assertRaises(TooMany) as caught:
            runs(order, under(49000, "x"))
        self.assertEqual(caught.exception.cells, 102)


class Serving(Case):
    def test_examples(self):
        begins, nested = Order.by(TIMES, "begin"), Order.by(TIMES, "begin", "-end")
        late = over(2000, "begin")
        self.assertIsNone(obstacle(order=nested, wish=begins, condition=late))
        self.assert_obstacle(begins, nested, late)
        self.assertIsNone(obstacle(begins, nested, ("or",)))
        self.assertIsNone(obstacle(begins, nested, ("same", ("a", "end"), 0)))
        self.assertIsNone(obstacle(begins, Order.by(TIMES, "end"), ("same", ("a", "begin"), ("a", "end"))))
        self.assert_obstacle(begins, Order.by(TIMES, "end"), ("less", ("a", "begin"), ("a", "end")))
        self.assertIsNone(
            obstacle(
                Order.by(SINGLE, "price"),
                Order(SINGLE, apart(("is", "a", "pen"), by("price"), by("-price"))),
                ("is", "a", "pen"),
            )
        )
        self.assert_obstacle(
            Order.by(SINGLE, "price"),
            Order(SINGLE, apart(("is", "a", "pen"), by("price"), by("-price"))),
            ("is", "a", "book"),
        )

    def assert_obstacle(self, order, wish, condition):
        records = obstacle(order, wish, condition)
        self.assertIs(type(records), tuple)
        self.assertEqual(
            [order.family.is_record(record) and holds(order.family, condition, record) for record in records],
            [True, True],
        )
        self.assertEqual(wish(*records), "less")
        self.assertNotEqual(order(*records), "less")

    def test_of_any_orders(self):
        choice = random.Random(33)
        found = {True: 0, False: 0}
        for family, limits, (order, other) in TWO:
            for wish in (other, order & other, order + other, order):
                condition = condition_from(choice, tests_of(family, "a", limits), 1)
                try:
                    records = obstacle(order, wish, condition)
                except TooMany:
                    continue
                found[records is None] = found[records is None] + 1
                if records:
                    self.assert_obstacle(order, wish, condition)
                    continue
                met = [record for record in some_records(family, limits or (0,)) if holds(family, condition, record)]
                for r, s in product(met, repeat=2):
                    self.assertFalse(wish(r, s) == "less" != order(r, s))
                # All lists by the one, without the others, are lists by the other one.
                row = [record for record in order.row(*met) if holds(family, condition, record)]
                self.assertNotIn("less", [wish(s, r) for r, s in zip(row, row[1:])])
        self.assertGreater(min(found.values()), 50)

    def test_in_kinds_that_are_like_others(self):
        # What lies in the way for one kind lies there for each kind with the same fields, and for no other one.
        family = Family((("x", "m"), ("y", "m"), ("z", "m")), *[(kind, (), ("x", "y", "z")) for kind in "klmnop"])
        order, wish = Order.by(family, "x", "-y", "z"), Order.by(family, "x", "-y", "-z")
        for kind in family.names:
            self.assertIsNone(obstacle(order, Order.by(family, "x"), ("is", "a", kind)))
            records = obstacle(order, wish, ("is", "a", kind))
            self.assertEqual([record[0] for record in records], [kind, kind])
            self.assertEqual((wish(*records), order(*records)), ("less", "greater"))
            self.assertIsNone(obstacle(order, wish, ("and", ("is", "a", kind), ("not", ("is", "a", kind)))))
        self.assertIsNotNone(order.unlike(wish))
        self.assertIsNone(order.unlike(Order.by(family, "x") + "-y" + "z"))

    def test_with_all_records_it_is_to_be_finer(self):
        for family, _, (order, other) in TWO:
            try:
                self.assertEqual(obstacle(order, other, ("and",)) is None, other <= order)
            except TooMany:
                pass

    def test_other_families(self):
        for wish in (Order.by(TIMES, "begin"), Order.by(Family(SHOP.fields, *SHOP.kinds[:2]), "price")):
            for condition in (("and",), None, ("is", "a", "span"), []):
                with self.assertRaises(OtherFamily):
                    obstacle(Order.by(SHOP, "price"), wish, condition)
        for thing in (None, SHOP, "price", (), True):
            with self.assertRaises(OtherFamily):
                obstacle(Order.by(SHOP, "price"), thing, ("and",))


if __name__ == "__main__":
    unittest.main()
