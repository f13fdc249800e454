"""Records: how they are made, which values are some, and what stands in them."""

import unittest

from keybehind.errors import NoField, NoKind, NotRecord
from keybehind.families import Family
from tests.helpers import ODD, SHOP, TIMES, WORDY, bent

PEN = ("pen", (700, 2500))
NOT_WHOLE = (None, True, False, "", "7", (), (7,), [], [7], {}, {"a": 7}, 1.0)


def is_record(thing):
    """Whether a value is a record of the shop, told kind by kind."""
    if not isinstance(thing, tuple) or len(thing) != 2 or not isinstance(thing[0], str):
        return False
    due = {"ware": 1, "book": 2, "pen": 2}.get(thing[0])
    return (isinstance(thing[1], tuple) and len(thing[1]) == due
            and all(type(value) is int for value in thing[1]))


class Making(unittest.TestCase):
    def assert_raised(self, error, attribute, value, kind, **values):
        with self.assertRaises(error) as caught:
            SHOP.record(kind, **values)
        self.assertIs(getattr(caught.exception, attribute), value)

    def test_values_stand_by_their_fields(self):
        self.assertEqual(SHOP.record("pen", price=2500, cost=700), PEN)
        self.assertEqual(SHOP.record(kind="pen", cost=700, price=2500), PEN)
        self.assertEqual(SHOP.record("ware", price=-10 ** 40), ("ware", (-10 ** 40,)))
        self.assertEqual(Family((), ("pen", (), ())).record("pen"), ("pen", ()))
        self.assertEqual(WORDY.record("not", **{"is": 3, "or": 2, "not": 5, "a": 1, "if": 4}), ("not", (1, 4, 3, 5, 2)))

    def test_no_kind_comes_first(self):
        for kind in (None, "price", "", ["pen"], {}, 3, ("pen",)):
            self.assert_raised(NoKind, "kind", kind, kind)
            self.assert_raised(NoKind, "kind", kind, kind, zebra=1, price=True)

    def test_strange_fields_come_ahead_of_lacking_ones(self):
        self.assert_raised(NoField, "field", "pages", "pen", zebra=1, pages=2, cost=True)
        self.assert_raised(NoField, "field", "zebra", "pen", zebra=1)
        self.assert_raised(NoField, "field", "cost", "ware", price=1, cost=2)
        self.assert_raised(NoField, "field", "Price", "ware", **{"price": True, "Price": 2, "p q": 3})
        self.assert_raised(NoField, "field", "", "ware", **{"price": 1, "": 2})

    def test_lacking_fields_come_ahead_of_values(self):
        self.assert_raised(NoField, "field", "cost", "pen")
        self.assert_raised(NoField, "field", "cost", "pen", price=None)
        self.assert_raised(NoField, "field", "price", "pen", cost=True)
        self.assert_raised(NoField, "field", "pages", "book", price=1)

    def test_the_least_field_whose_value_is_no_integer(self):
        for value in NOT_WHOLE:
            self.assert_raised(NotRecord, "thing", value, "pen", price=value, cost=1)
            self.assert_raised(NotRecord, "thing", value, "pen", price=1, cost=value)
            self.assert_raised(NotRecord, "thing", value, "pen", price="later", cost=value)


class IsRecord(unittest.TestCase):
    def test_bent(self):
        for record in (PEN, ("ware", (0,)), ("book", (-1, 10 ** 30))):
            self.assertIs(SHOP.is_record(record), True)
            for thing in bent(record, (*ODD, "book", "pen", 5)):
                self.assertIs(SHOP.is_record(thing), is_record(thing), thing)

    def test_bools_lists_and_numbers_of_values(self):
        for thing in (("ware", (True,)), ("ware", [1]), ["ware", (1,)], ("ware", ()), ("ware", (1, 2)), ("ware", 1),
                      ("ware", (1,), 2), ("ware",), ("inks", (1,)), ("WARE", (1,)), ("ware", (None,)), ("ware", ("1",)),
                      ("ware", {0: 1}), ("ware", {}), ({}, (1,)), (["ware"], (1,)), ("ware", ([],)), SHOP, "ware"):
            self.assertIs(SHOP.is_record(thing), False)
        self.assertIs(SHOP.is_record(thing=("ware", (1,))), True)
        self.assertIs(TIMES.is_record(("ware", (1,))), False)
        self.assertIs(Family((), ("pen", (), ())).is_record(("pen", ())), True)
        self.assertIs(Family(()).is_record(("pen", ())), False)


class Value(unittest.TestCase):
    def test_values(self):
        self.assertEqual([SHOP.value(PEN, field) for field in ("cost", "pages", "price")], [700, None, 2500])
        self.assertEqual(SHOP.value(field="price", record=("ware", (0,))), 0)
        self.assertIsNone(SHOP.value(("ware", (0,)), "cost"))

    def test_errors(self):
        for thing in (None, PEN[:1], list(PEN), ("pen", [1, 2]), ("pen", (1, True)), ("pen", (1,)), "pen", [], {}):
            for field in ("price", "zebra", None):
                with self.assertRaises(NotRecord) as caught:
                    SHOP.value(thing, field)
                self.assertIs(caught.exception.thing, thing)
        for field in (None, "zebra", "pen", "money", "", True, ["price"], {"price": 1}, ("price",), 0):
            with self.assertRaises(NoField) as caught:
                SHOP.value(PEN, field)
            self.assertIs(caught.exception.field, field)


if __name__ == "__main__":
    unittest.main()
