"""Shelves: beside lists that are sorted anew each time."""

import random
import unittest

from keybehind.drafts import Draft
from keybehind.errors import BadCondition, NotRecord, NothingThere, OtherFamily
from keybehind.families import Family
from keybehind.orders import Order
from keybehind.runs import obstacle
from keybehind.shelves import Shelf
from tests import helpers, reference
from tests.comparisons import ORDERS, under
from tests.helpers import SHOP, TIMES, bent
from tests.reference import FAMILIES, records_with
from tests.samples import Judge, condition_from, tests_of
from tests.test_orders import ODD, any_order, some_records

PRICE, TURNED_PRICE = Order.by(SHOP, "price"), Order.by(SHOP, "-price")
PEN, BOOK, WARE = ("pen", (700, 2500)), ("book", (90, 5000)), ("ware", (3000,))


class Listed:
    """A list of records that is sorted anew for everything."""

    def __init__(self, order, records=()):
        self.order, self.records = order, []
        for record in records:
            self.put(record)

    def put(self, record):
        at = len(self.records)
        while at and self.order(self.records[at - 1], record) == "greater":
            at = at - 1
        self.records.insert(at, record)

    def turn(self, order):
        records = self.records
        self.order = order
        # Those that are less, then those that stood ahead.
        ranks = [sum(order(other, record) == "less" for other in records) for record in records]
        self.records = [records[at] for at in sorted(range(len(records)), key=lambda at: (ranks[at], at))]

    def span(self, record):
        words = [self.order(other, record) for other in self.records]
        return words.count("less"), words.count("less") + words.count("alike")


class Case(helpers.Case):
    def assert_is(self, shelf, order, rows):
        self.assertIs(type(shelf), Shelf)
        self.assertIs(type(shelf.rows), tuple)
        self.assertEqual(shelf.rows, tuple(rows))
        self.assertEqual(len(shelf), len(rows))
        self.assertEqual(shelf.order, order)

    def assert_as(self, shelf, listed):
        self.assert_is(shelf, listed.order, listed.records)


class Made(Case):
    def test_sorted(self):
        shelf = Shelf(PRICE, BOOK, WARE, PEN)
        self.assert_is(shelf, PRICE, [PEN, WARE, BOOK])
        self.assertIs(shelf.order, PRICE)
        self.assert_is(Shelf(TURNED_PRICE, PEN, BOOK, WARE), TURNED_PRICE, [BOOK, WARE, PEN])
        self.assert_is(Shelf(order=PRICE), PRICE, [])

    def test_alike_ones_as_they_came(self):
        records = [("pen", (3, 1)), ("ware", (1,)), ("pen", (2, 1)), ("ware", (1,)), ("book", (0, 1)), ("pen", (0, 0))]
        self.assert_is(Shelf(PRICE, *records), PRICE, records[-1:] + records[:-1])
        self.assert_is(Shelf(Order(SHOP, "alike"), *records), Order(SHOP, "alike"), records)

    def test_the_first_one_that_is_none(self):
        for thing in bent(PEN):
            if not SHOP.is_record(thing):
                self.assert_raises(NotRecord, lambda: Shelf(PRICE, WARE, thing, None), thing=thing)
        self.assert_raises(NotRecord, lambda: Shelf(PRICE, None, ("span", (1, 2))), thing=None)


class Changed(Case):
    def test_beside_a_list(self):
        choice = random.Random(91)
        found = dict.fromkeys(("put", "+=", "take", "order", "span", "in", "[]", "merged"), 0)
        for _ in range(80):
            family = choice.choice(FAMILIES)
            records = some_records(family, (0,), 4)
            order = any_order(choice, family, (0,))
            start = choice.choices(records, k=choice.randint(0, 6))
            shelf, listed = Shelf(order, *start), Listed(order, start)
            self.assert_as(shelf, listed)
            for _ in range(15):
                word = choice.choice(list(found))
                found[word] = found[word] + 1
                shelf = self.act(word, choice, family, records, shelf, listed)
                self.assert_as(shelf, listed)
        self.assertGreater(min(found.values()), 80)

    def act(self, word, choice, family, records, shelf, listed):
        record = choice.choice(records)
        if word == "put":
            some = choice.choices(records, k=choice.randint(0, 4))
            self.assertIsNone(shelf.put(*some))
            for part in some:
                listed.put(part)
        elif word == "+=":
            held = shelf
            shelf += record
            self.assertIs(held, shelf)
            listed.put(record)
        elif word == "take":
            if record in listed.records:
                self.assertIsNone(shelf.take(record=record))
                listed.records.remove(record)
            else:
                self.assert_raises(NothingThere, lambda: shelf.take(record))
        elif word == "order":
            order = any_order(choice, family, (0,), 2)
            if choice.random() < 0.5:
                shelf.order = order
            else:
                self.assertIsNone(shelf.set_order(order=order))
            listed.turn(order)
        elif word == "span":
            self.assertEqual(shelf.span(record=record), listed.span(record))
        elif word == "in":
            self.assertIs(record in shelf, record in listed.records)
        elif word == "[]":
            condition = condition_from(choice, tests_of(family, "a", (0,)), 1)
            told = reference.reader(condition)
            due = [part for part in listed.records if told(reference.seen(family, part), reference.seen(family, part))]
            self.assertEqual(shelf[condition], tuple(due))
        else:
            other = Shelf(any_order(choice, family, (0,), 2), *choice.choices(records, k=3))
            rows, own = other.rows, shelf.rows
            merged = shelf.merged(other=other)
            self.assertEqual((other.rows, shelf.rows), (rows, own))
            self.assertIsNot(merged, shelf)
            for part in rows:
                listed.put(part)
            return merged
        return shelf

    def test_put_behind_all_that_are_not_greater(self):
        shelf = Shelf(PRICE, ("ware", (1,)), ("ware", (3,)))
        shelf.put(("pen", (0, 1)), ("pen", (9, 3)), ("pen", (5, 1)), ("book", (0, 2)))
        rows = [("ware", (1,)), ("pen", (0, 1)), ("pen", (5, 1)), ("book", (0, 2)), ("ware", (3,)), ("pen", (9, 3))]
        self.assert_is(shelf, PRICE, rows)
        shelf += ("ware", (2,))
        self.assertEqual(shelf.rows[3:5], (("book", (0, 2)), ("ware", (2,))))

    def test_replaced_orders(self):
        records = [("pen", (2, 5)), ("pen", (1, 5)), ("ware", (7,)), ("book", (4, 5)), ("pen", (1, 9))]
        shelf = Shelf(PRICE, *records)
        shelf.order = Order.by(SHOP, "cost")
        due = [("pen", (1, 5)), ("pen", (1, 9)), ("pen", (2, 5)), ("book", (4, 5)), ("ware", (7,))]
        self.assert_is(shelf, Order.by(SHOP, "cost"), due)
        # Those that are alike stay as they stood, not as they came.
        shelf.order = Order(SHOP, "alike")
        self.assert_is(shelf, Order(SHOP, "alike"), due)
        shelf.put(("pen", (0, 0)))
        self.assertEqual(shelf.rows, (*due, ("pen", (0, 0))))
        shelf.order = TURNED_PRICE
        self.assertEqual(shelf.rows[:2], (("pen", (1, 9)), ("ware", (7,))))

    def test_several_times_the_same_record(self):
        shelf = Shelf(PRICE, PEN, PEN)
        shelf.put(PEN, ("pen", (0, 2500)))
        self.assert_is(shelf, PRICE, [PEN, PEN, PEN, ("pen", (0, 2500))])
        shelf.take(PEN)
        self.assert_is(shelf, PRICE, [PEN, PEN, ("pen", (0, 2500))])
        shelf.take(("pen", (0, 2500)))
        shelf.take(PEN)
        shelf.take(PEN)
        self.assert_is(shelf, PRICE, [])
        self.assert_raises(NothingThere, lambda: shelf.take(PEN))

    def test_which_one_is_taken(self):
        # Of equal records the first one goes: those between them that are alike show which.
        other = ("pen", (1, 2500))
        shelf = Shelf(PRICE, PEN, other, PEN)
        shelf.take(PEN)
        self.assert_is(shelf, PRICE, [other, PEN])
        shelf.put(PEN)
        self.assertEqual(shelf.span(PEN), (0, 3))

    def test_merged(self):
        one, other = Shelf(PRICE, PEN, WARE), Shelf(TURNED_PRICE, BOOK, ("pen", (1, 2500)), ("pen", (0, 2500)))
        due = [PEN, ("pen", (1, 2500)), ("pen", (0, 2500)), WARE, BOOK]
        merged = one.merged(other)
        self.assert_is(merged, PRICE, due)
        self.assert_is(one, PRICE, [PEN, WARE])
        merged.put(PEN)
        one.take(PEN)
        self.assert_is(one, PRICE, [WARE])
        self.assertEqual(len(merged), 6)
        self.assert_is(one.merged(one), PRICE, [WARE, WARE])
        self.assert_is(other.merged(one), TURNED_PRICE, [BOOK, WARE, ("pen", (1, 2500)), ("pen", (0, 2500))])

    def test_many_records(self):
        order = Order.by(TIMES, "-begin", "end")
        records = random.Random(92).choices(records_with(TIMES, range(-6, 7)), k=1000)
        shelf, listed = Shelf(order), Listed(order)
        for record in records[:200]:
            shelf += record
            listed.put(record)
        self.assert_as(shelf, listed)
        self.assert_is(Shelf(order, *records), order, order.row(*records))
        for record in records[:200:3]:
            shelf.take(record)
            listed.records.remove(record)
        self.assert_as(shelf, listed)
        shelf.order = Order.by(TIMES, "end")
        listed.turn(Order.by(TIMES, "end"))
        self.assert_as(shelf, listed)
        self.assertEqual([shelf.span(record) for record in records], [listed.span(record) for record in records])


class Asked(Case):
    def test_members(self):
        shelf = Shelf(PRICE, PEN, ("ware", (1,)), ("ware", (0,)))
        for thing in bent(PEN):
            self.assertIs(thing in shelf, repr(thing) == repr(PEN))
        # A bool is no integer.
        for thing in (("ware", (True,)), ("ware", (False,)), ["ware", (1,)], ("ware", [1]), ("ware", (2,)), shelf, PRICE, *ODD):
            self.assertIs(thing in shelf, False)
        self.assertIs(("ware", (1,)) in shelf, True)

    def test_taking_any_value(self):
        shelf = Shelf(PRICE, PEN, ("ware", (1,)))
        for thing in (*bent(PEN), ("ware", (True,)), ("ware", (1.0,)), shelf, PRICE, SHOP, None):
            if repr(thing) != repr(PEN):
                self.assert_raises(NothingThere, lambda: shelf.take(record=thing))
        self.assert_is(shelf, PRICE, [("ware", (1,)), PEN])

    def test_refused_values_change_nothing(self):
        shelf = Shelf(PRICE, PEN, WARE)
        for thing in bent(PEN):
            if SHOP.is_record(thing):
                continue
            self.assert_raises(NotRecord, lambda: shelf.put(BOOK, thing, None), thing=thing)
            self.assert_raises(NotRecord, lambda: shelf.span(thing), thing=thing)
            with self.assertRaises(NotRecord) as caught:
                shelf += thing
            self.assertIs(caught.exception.thing, thing)
            self.assert_is(shelf, PRICE, [PEN, WARE])

    def test_other_families(self):
        shelf = Shelf(PRICE, PEN, WARE)
        wares = Family(SHOP.fields, SHOP.kinds[0], SHOP.kinds[2], SHOP.kinds[1])
        for thing in (Order.by(TIMES, "begin"), Order.by(wares, "price"), SHOP, PRICE.key, Draft(PRICE), shelf, *ODD):
            with self.assertRaises(OtherFamily):
                shelf.order = thing
            self.assert_raises(OtherFamily, lambda: shelf.set_order(thing))
        for thing in (Shelf(Order.by(TIMES, "begin")), Shelf(Order.by(wares, "price"), PEN), PRICE, (PEN, WARE), *ODD):
            self.assert_raises(OtherFamily, lambda: shelf.merged(thing))
        self.assert_is(shelf, PRICE, [PEN, WARE])
        again = Order.by(Family(SHOP.fields[::-1], *SHOP.kinds), "-price")
        shelf.order = again
        self.assert_is(shelf, TURNED_PRICE, [WARE, PEN])

    def test_conditions(self):
        shelf = Shelf(PRICE, PEN, BOOK, WARE, PEN)
        self.assertEqual(shelf[("is", "a", "ware")], shelf.rows)
        self.assertEqual(shelf[("or",)], ())
        self.assertEqual(shelf[under(5000, "price")], (PEN, PEN, WARE))
        self.assertEqual(shelf[("same", ("a", "cost"), ("a", "cost"))], (PEN, PEN))
        known = Judge(SHOP, "a")
        for thing in bent(("not", ("and", under(0, "price"), ("is", "a", "pen")))):
            if known.is_condition(thing):
                self.assertIs(type(shelf[thing]), tuple)
            else:
                self.assert_raises(BadCondition, lambda: shelf[thing], thing=thing)
        self.assert_raises(BadCondition, lambda: shelf[0])
        self.assert_raises(BadCondition, lambda: shelf[("less", ("a", "price"), ("b", "price"))])

    def test_it_is_not_iterated_over(self):
        shelf = Shelf(PRICE, PEN, WARE)
        self.assertRaises(TypeError, lambda: list(shelf))
        self.assertRaises(TypeError, lambda: iter(shelf))
        self.assertFalse(shelf == shelf.rows)

    def test_spans(self):
        shelf = Shelf(PRICE, ("ware", (1,)), ("ware", (1,)), ("pen", (0, 2)), ("ware", (4,)))
        for value, due in ((0, (0, 0)), (1, (0, 2)), (2, (2, 3)), (3, (3, 3)), (4, (3, 4)), (5, (4, 4)), (10**29, (4, 4))):
            self.assertEqual(shelf.span(("book", (7, value))), due)
        self.assertEqual(Shelf(PRICE).span(PEN), (0, 0))


class Serving(Case):
    def test_orders_that_serve_another(self):
        # If there is no obstacle, what a shelf has with the condition is sorted by the other order; else it need not be.
        choice = random.Random(93)
        found = {True: 0, False: 0}
        for _ in range(150):
            family = choice.choice(FAMILIES)
            order = any_order(choice, family, (0,))
            wish = any_order(choice, family, (0,), 2) if choice.random() < 0.7 else order & any_order(choice, family, (0,), 2)
            condition = choice.choice((("and",), condition_from(choice, tests_of(family, "a", (0,)), 1)))
            records = choice.choices(some_records(family, (0,), 6), k=30)
            found_one = obstacle(order, wish, condition)
            found[found_one is None] = found[found_one is None] + 1
            if found_one is None:
                rows = Shelf(order, *records)[condition]
                self.assertEqual(Shelf(wish, *rows).rows, rows)
                continue
            r, s = found_one
            for row in ((r, s), (s, r)):
                shelf = Shelf(order, *row)
                if shelf.rows == (s, r):
                    self.assertNotEqual(Shelf(wish, *shelf[condition]).rows, shelf.rows)
                    break
            else:
                self.fail("the two never stand in the wrong row")
        self.assertGreater(min(found.values()), 20)

    def test_sorted_in_all_ways_alike(self):
        choice = random.Random(94)
        for family, comparison in ORDERS:
            order = Order(family, comparison)
            records = choice.choices(some_records(family, (0, 1000), 5), k=25)
            shelf = Shelf(order)
            shelf.put(*records)
            self.assertEqual(shelf.rows, order.row(*records))
            self.assertEqual(list(shelf.rows), sorted(records, key=order.place))


if __name__ == "__main__":
    unittest.main()
