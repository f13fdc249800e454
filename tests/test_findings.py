"""Findings: each form, true and not, and values that are none, bent at any place."""

import random
import unittest
from itertools import product

from keybehind.conditions import holds, is_comparison, is_condition
from keybehind.drafts import Draft
from keybehind.errors import NotOrder, Opposite, TooMany
from keybehind.families import Family
from keybehind.findings import finding_holds
from keybehind.judging import judge
from keybehind.keys import plain
from keybehind.operators import Operators
from keybehind.orders import Order
from keybehind.runs import obstacle, row_with, runs
from keybehind.shelves import Shelf
from tests import reference
from tests.comparisons import BROKEN, ORDERS, by, first, under
from tests.drawn import any_comparison
from tests.helpers import ODD, SHOP, TIMES, bent, deep
from tests.reference import FAMILIES, SINGLE, all_ways
from tests.samples import condition_from, tests_of
from tests.test_orders import any_order, some_records

PRICE = Order.by(SHOP, "price")
FINER = Order.by(SHOP, "price", "-cost")
BEGINS = Order.by(TIMES, "begin")
WORDS = ("order", "broken", "equal", "unlike", "finer", "beside", "opposite", "serves", "runs")
PEN, BOOK = ("pen", (700, 2500)), ("book", (90, 5000))
CHEAP = under(1000, "price")


def some_findings():
    """True findings of each form."""
    comparison = by("price")
    yield "order", SHOP, comparison, judge(SHOP, comparison)[1]
    yield "broken", SHOP, by("cost"), judge(SHOP, by("cost"))[1]
    yield "broken", SHOP, "less", (PEN,)
    yield "equal", PRICE, Order(SHOP, by("price"))
    yield "unlike", PRICE, FINER, ("pen", (1, 1)), ("pen", (2, 1))
    yield "finer", PRICE, FINER
    yield "finer", PRICE, PRICE
    yield "beside", FINER, PRICE, ("pen", (2, 1)), ("pen", (1, 1))
    yield "opposite", PRICE, -PRICE, PEN, BOOK
    yield "serves", FINER, PRICE, CHEAP
    yield "runs", PRICE, CHEAP, (PEN[:1] + ((0, 0),),), 1
    yield "runs", PRICE, CHEAP, (), 0
    yield "runs", PRICE, ("is", "a", "pen"), (PEN, BOOK, ("pen", (0, 5000))), 2


class Case(unittest.TestCase):
    def assert_holds(self, thing, due=True):
        self.assertIs(finding_holds(thing), due, thing)


class Forms(Case):
    def test_true_ones(self):
        for thing in some_findings():
            self.assert_holds(thing)
            self.assertIs(finding_holds(thing=thing), True)

    def test_bent_ones(self):
        # Whatever is bent in a comparison, a condition, records, a row or a number: just what stays true holds.
        for thing in some_findings():
            for at, part in enumerate(thing):
                if isinstance(part, (Order, Family)):
                    for other in (*ODD, SHOP.text, PRICE.key, BEGINS, TIMES, Draft(PRICE), Shelf(PRICE)):
                        if other != part:
                            self.assert_holds(thing[:at] + (other,) + thing[at + 1 :], False)
                    continue
                for other in bent(part):
                    changed = thing[:at] + (other,) + thing[at + 1 :]
                    self.assert_holds(changed, self.due(changed))

    def due(self, thing):
        """Whether a finding, with valid orders and families, holds; told without the function."""
        word, *parts = thing
        if not isinstance(word, str) or word not in WORDS:
            return False
        if len(parts) != {"order": 3, "broken": 3, "equal": 2, "unlike": 4, "finer": 2, "beside": 4, "opposite": 4,
                          "serves": 3, "runs": 4}[word]:
            return False
        if word in ("order", "broken"):
            family, comparison, found = parts
            if not isinstance(family, Family) or not is_comparison(family, comparison):
                return False
            if word == "order":
                return repr(judge(family, comparison)) == repr(("key", found))
            right = isinstance(found, tuple) and 1 <= len(found) <= 3 and all(family.is_record(part) for part in found)
            return right and reference.breaks(family, comparison, found)
        order, *rest = parts
        if not isinstance(order, Order):
            return False
        if word == "runs":
            return is_row(order, *rest)
        other, *rest = rest
        if not isinstance(other, Order) or other.family != order.family:
            return False
        if word in ("equal", "finer"):
            return order.key == other.key if word == "equal" else order <= other
        if word == "serves":
            return is_condition(order.family, rest[0]) and obstacle(order, other, rest[0]) is None
        if not all(order.family.is_record(record) for record in rest):
            return False
        said = order(*rest), other(*rest)
        return {"unlike": said[0] != said[1], "beside": said[0] == "less" != said[1],
                "opposite": said == ("less", "greater")}[word]

    def test_one_part_too_few_or_too_many(self):
        for thing in some_findings():
            for other in (thing[:-1], thing[1:], (*thing, None), (*thing, thing[-1]), (thing,), list(thing),
                          {part if isinstance(part, str) else at: part for at, part in enumerate(thing)}):
                self.assert_holds(other, False)
            for word in WORDS:
                self.assert_holds((word,), False)
                self.assert_holds((word, *thing[1:]), self.due((word, *thing[1:])))

    def test_values_that_are_nothing_like_it(self):
        for thing in (*ODD, *WORDS, SHOP, PRICE, Draft(PRICE), Shelf(PRICE), Operators(SHOP), deep("order", 29), PRICE.key,
                      (["order"], SHOP), ({},), (None, PRICE, PRICE), (True, PRICE, PRICE), ("Equal", PRICE, PRICE),
                      ("equal ", PRICE, PRICE), ("", PRICE, PRICE), ((), PRICE, PRICE), ("x" * 4000,), ("order",) * 4,
                      ("equal", PRICE.key, PRICE.key), ("equal", SHOP, SHOP), ("equal", "equal", "equal")):
            self.assert_holds(thing, False)

    def test_bools(self):
        self.assert_holds(("broken", SINGLE, "less", (("pen", (1,)),)))
        self.assert_holds(("broken", SINGLE, "less", (("pen", (True,)),)), False)
        one = Order.by(SINGLE, "price")
        self.assert_holds(("unlike", one, -one, ("pen", (0,)), ("pen", (1,))))
        self.assert_holds(("unlike", one, -one, ("pen", (False,)), ("pen", (1,))), False)
        self.assert_holds(("runs", one, ("and",), (("pen", (1,)),), 1))
        self.assert_holds(("runs", one, ("and",), (("pen", (1,)),), True), False)
        self.assert_holds(("runs", one, ("and",), (), False), False)
        self.assert_holds(("runs", one, ("and",), (("pen", (True,)),), 1), False)
        zero = first(under(0, "price"))
        word, key = judge(SINGLE, zero)
        self.assert_holds(("order", SINGLE, zero, key))
        self.assert_holds(("order", SINGLE, zero, (key[0], (("money", False),), key[2])), False)

    def test_orders_of_two_families(self):
        again = Family(SHOP.fields[::-1], *SHOP.kinds)
        other = Family(SHOP.fields, SHOP.kinds[0], SHOP.kinds[2], SHOP.kinds[1])
        for thing in some_findings():
            if isinstance(thing[2], Order):
                self.assert_holds((*thing[:2], Order.of(again, thing[2].key), *thing[3:]))
                self.assert_holds((*thing[:2], Order.of(other, thing[2].key), *thing[3:]), False)
                self.assert_holds((thing[0], Order.of(other, thing[1].key), *thing[2:]), False)


class Judged(Case):
    def test_orders(self):
        for family, comparison in ORDERS:
            key = judge(family, comparison)[1]
            self.assert_holds(("order", family, comparison, key))
            self.assert_holds(("broken", family, comparison, tuple(all_ways(family, (), 1)[:1])), False)
            for other_family, other in ORDERS[::4]:
                due = other_family == family and judge(other_family, other)[1] == key
                self.assert_holds(("order", other_family, other, key), due or self.says(other_family, other, key))

    def says(self, family, comparison, key):
        """The same key may be the right one for another family."""
        return repr(judge(family, comparison)) == repr(("key", key))

    def test_keys_that_are_not_normal(self):
        for family, comparison in ORDERS:
            key = judge(family, comparison)[1]
            reads = tuple((kind, field) for kind in family.names[:2] for field in family.fields_of(kind)[:1])
            wider = plain(family, key, reads, tuple((measure, 5000) for measure in family.measures[:1]))
            self.assert_holds(("order", family, comparison, wider), wider == key)

    def test_broken_ones(self):
        for _, family, comparison in BROKEN:
            records = judge(family, comparison)[1]
            self.assert_holds(("broken", family, comparison, records))
            self.assert_holds(("order", family, comparison, records), False)
            for other in (records[:-1], (*records, *records, *records, *records), list(records), records[:1] * 3, ()):
                due = isinstance(other, tuple) and 0 < len(other) < 4 and reference.breaks(family, comparison, other)
                self.assert_holds(("broken", family, comparison, other), bool(due))

    def test_any_comparisons(self):
        choice = random.Random(95)
        for _ in range(150):
            family = choice.choice(FAMILIES)
            comparison = any_comparison(choice, family, (0,))
            try:
                word, found = judge(family, comparison)
            except TooMany:
                continue
            self.assert_holds(("order" if word == "key" else "broken", family, comparison, found))
            self.assert_holds(("broken" if word == "key" else "order", family, comparison, found), False)


class OfOrders(Case):
    def test_any_two(self):
        choice = random.Random(96)
        found = dict.fromkeys(WORDS[2:], 0)
        for _ in range(150):
            family = choice.choice(FAMILIES)
            one, other = any_order(choice, family), any_order(choice, family)
            if choice.random() < 0.5:
                try:
                    other = choice.choice((one + other, one & other, -one))
                except TooMany:
                    continue
            condition = condition_from(choice, tests_of(family, "a", (0,)), 1)
            try:
                self.of_two(family, one, other, condition, found)
            except TooMany:
                continue
        self.assertGreater(min(found.values()), 15)

    def of_two(self, family, one, other, condition, found):
        unlike, beside = one.unlike(other), one.beside(other)
        self.assert_holds(("equal", one, other), unlike is None)
        self.assert_holds(("finer", one, other), beside is None)
        blocked = obstacle(one, other, condition)
        self.assert_holds(("serves", one, other, condition), blocked is None)
        if unlike:
            self.assert_holds(("unlike", one, other, *unlike))
            found["unlike"] = found["unlike"] + 1
        if beside:
            self.assert_holds(("beside", one, other, *beside))
            self.assert_holds(("beside", one, other, *beside[::-1]), False)
            found["beside"] = found["beside"] + 1
        try:
            one | other
        except Opposite as error:
            self.assert_holds(("opposite", one, other, error.one, error.other))
            self.assert_holds(("opposite", other, one, error.other, error.one))
            self.assert_holds(("opposite", one, other, error.other, error.one), False)
            found["opposite"] = found["opposite"] + 1
        for word, due in (("equal", unlike is None), ("finer", beside is None), ("serves", blocked is None)):
            found[word] = found[word] + due
        for r, s in product(some_records(family, (0,), 2), repeat=2):
            said = one(r, s), other(r, s)
            self.assert_holds(("unlike", one, other, r, s), said[0] != said[1])
            self.assert_holds(("beside", one, other, r, s), said[0] == "less" != said[1])
            self.assert_holds(("opposite", one, other, r, s), said == ("less", "greater"))
        most = runs(one, condition)
        for many in range(4 if most is None else most + 1):
            row = row_with(one, condition, many)
            self.assert_holds(("runs", one, condition, row, many))
            self.assert_holds(("runs", one, condition, row, many + 1), False)
            self.assert_holds(("runs", one, ("not", condition), row, many), many == 0)
            found["runs"] = found["runs"] + 1

    def test_rows(self):
        a, b, c = ("pen", (0, 1)), ("book", (9, 1)), ("pen", (0, 2))
        pens = ("is", "a", "pen")
        for row, many, due in (
            ((a,), 1, True), ((a, b, a), 2, True), ((a, b, c), 2, True), ((c, b, a), 2, False), ((b,), 1, False),
            ((a, b), 1, False), ((a, a, a), 2, False), ((), 0, True), ((), 1, False), ((a,), 0, False), ((a,), -1, False),
            ((), -1, False), ((a, b, c, b, c), 3, False), ((a, b, a, b, c), 3, True), ([a], 1, False), ((a, None, c), 2, False),
            ((a, b, ["pen", (0, 2)]), 2, False), (a, 1, False), ((a, b, a), 2 * 10**30, False), (None, 1, False),
        ):
            self.assert_holds(("runs", PRICE, pens, row, many), due)
        self.assert_holds(("runs", PRICE, pens, (a, b) * 99 + (a,), 100))
        self.assert_holds(("runs", PRICE, None, (a,), 1), False)
        self.assert_holds(("runs", PRICE, ("less", ("a", "price"), ("b", "price")), (a,), 1), False)
        self.assert_holds(("runs", BEGINS, ("and",), (a,), 1), False)

    def test_changed_orders(self):
        try:
            PRICE.changed(("is", "a", "pen"), -PRICE)
        except NotOrder as error:
            comparison = ("if", ("and", ("is", "a", "pen"), ("is", "b", "pen")), by("-price"), by("price"))
            self.assert_holds(("broken", SHOP, comparison, error.records))


def is_row(order, condition, row, many):
    family = order.family
    if not is_condition(family, condition) or not isinstance(row, tuple) or type(many) is not int or many < 0:
        return False
    if len(row) != max(0, 2 * many - 1) or not all(family.is_record(record) for record in row):
        return False
    if [holds(family, condition, record) for record in row] != [at % 2 == 0 for at in range(len(row))]:
        return False
    return not any(order(other, one) == "less" for at, one in enumerate(row) for other in row[at + 1 :])


if __name__ == "__main__":
    unittest.main()
