"""Orders: what they are made from, what they say, and the orders that are made from orders."""

import random
import unittest
from itertools import combinations, product

from keybehind.cells import cells_of
from keybehind.conditions import holds
from keybehind.errors import (
    BadComparison,
    BadCondition,
    BadKey,
    Broken,
    NoField,
    NoKind,
    NotOrder,
    NotRecord,
    Opposite,
    OtherFamily,
    TooMany,
)
from keybehind.families import Family
from keybehind.judging import broken_holds, judge
from keybehind.keys import is_normal, plain
from keybehind.orders import Order
from tests import helpers, reference, samples
from tests.comparisons import BROKEN, ORDERS, apart, by, by_known, first, ordered_from, over, under, where
from tests.helpers import SHOP, TIMES, bent, deep
from tests.reference import BARE, FAMILIES, SINGLE, TURNED, broken, key_word
from tests.samples import condition_from, tests_of

ODD = (
    None,
    True,
    False,
    0,
    1,
    1000,
    "",
    "a",
    "price",
    "alike",
    "pens",
    "-",
    "--price",
    "price-",
    "PRICE",
    (),
    ("less",),
    [],
    ["price"],
    {},
    (None,),
    10**39,
    "x" * 4000,
)
CHAOS = random.Random(20)


def any_order(choice, family, limits=(0,), deepest=3):
    names = [field for field, _ in family.fields]
    while True:
        comparison = ordered_from(
            choice, tests_of(family, "ab", limits), tests_of(family, "a", limits), names, choice.randint(0, deepest)
        )
        try:
            return Order(family, comparison)
        except (NotOrder, TooMany):
            pass


def some_records(family, limits=(0,), times=12):
    choice = random.Random(21)
    values = sorted({limit + step for limit in limits for step in (-2, -1, 0, 1, 2)} | {5})
    return sorted(
        {
            (kind, tuple(choice.choice(values) for _ in family.fields_of(kind)))
            for kind in family.names
            for _ in range(times)
        }
    )


def groups_of_orders(times, many=2):
    """Orders of one family, by twos or by threes."""
    choice = random.Random(22)
    for _ in range(times):
        family = choice.choice(FAMILIES)
        limits = choice.choice(((), (), (0,)))
        yield family, limits, tuple(any_order(choice, family, limits) for _ in range(many))


TWO = tuple(groups_of_orders(150))
KNOWN = tuple((family, comparison, Order(family, comparison)) for family, comparison in ORDERS)


class Case(helpers.Case):
    def assert_says(self, order, word, records):
        """Checks what an order says of all pairs of these records, and that it is what its key says."""
        self.assertIs(type(order), Order)
        self.assertIs(is_normal(order.family, order.key), True)
        self.assertEqual((order.reads, order.limits), order.key[:2])
        for one, other in product(records, repeat=2):
            due = word(one, other)
            self.assertEqual(order(one, other), due)
            self.assertEqual(key_word(order.family, order.key, one, other), due)



class Making(Case):
    def test_by_a_comparison(self):
        for family, comparison, order in KNOWN:
            self.assertEqual(order.key, judge(family, comparison)[1])
            self.assertIs(order.family, family)
            self.assert_says(order, reference.worded(family, comparison), some_records(family, (0, 1000), 6))
        self.assertEqual(Order(comparison="alike", family=BARE).key, judge(BARE, "alike")[1])
        for name in ("family", "key", "reads", "limits"):
            self.assertIn(name, vars(order))

    def test_broken_comparisons(self):
        for _, family, comparison in BROKEN:
            error = self.assert_raises(NotOrder, lambda: Order(family, comparison))
            self.assertIs(broken_holds(family, comparison, error.records), True)
            self.assertIs(type(error.__cause__), Broken)
            self.assertEqual(error.__cause__.records, error.records)

    def test_values_that_are_no_comparisons(self):
        for thing in (*ODD, ("if", "less", "less", "less"), deep("less", 29), ["if", ("and",), "less", "less"]):
            if thing != "alike":
                self.assertIs(self.assert_raises(BadComparison, lambda: Order(SHOP, thing)).thing, thing)

    def test_by_a_key(self):
        for family, comparison, order in KNOWN:
            for key in (
                order.key,
                plain(
                    family,
                    order.key,
                    tuple((kind, field) for kind in family.names[:1] for field in family.fields_of(kind)),
                    (),
                ),
            ):
                found = Order.of(family, key)
                self.assertEqual(
                    (found.family, found.key, found.reads, found.limits), (family, order.key, *order.key[:2])
                )
                self.assertEqual(found, order)
        cells = cells_of(SINGLE, (("pen", "price"),), ())
        upside = ((("pen", "price"),), (), (("alike", cells[2:]), ("alike", cells[:2])))
        self.assertEqual(
            Order.of(key=upside, family=SINGLE).key,
            ((), (), (("alike", (("pen", ()),)), ("alike", (("book", ()), ("gift", ()))))),
        )

    def test_values_that_are_no_keys(self):
        key = KNOWN[4][2].key
        for thing in (
            *ODD,
            key[:2],
            (*key, ()),
            list(key),
            (key[0], key[1], ()),
            (key[0], (("money", True),), key[2]),
            deep(key, 20),
        ):
            self.assertIs(self.assert_raises(BadKey, lambda: Order.of(SINGLE, thing)).thing, thing)
        self.assertIs(self.assert_raises(BadKey, lambda: Order.of(SHOP, key)).thing, key)
        limits = tuple(("money", 1000 * at) for at in range(20))
        self.assert_raises(TooMany, lambda: Order.of(SINGLE, (key[0], limits, "node")), cells=123)

    def test_by_fields(self):
        for family in FAMILIES:
            names = [sign + field for field, _ in family.fields for sign in ("", "-")]
            for row in [(), *[(name,) for name in names], *combinations(names, 2), *combinations(names[::-1], 3)]:
                self.assert_says(Order.by(family, *row), self.by_fields(family, row), some_records(family, (0,), 5))
        self.assertEqual(Order.by(BARE).key, judge(BARE, "alike")[1])
        self.assertEqual(Order.by(family=TIMES), Order(TIMES, "alike"))

    def by_fields(self, family, row):
        def word(one, other):
            for name in row:
                field = name.removeprefix("-")
                x, y = family.value(one, field), family.value(other, field)
                if x is None or y is None:
                    if (x is None) != (y is None):
                        return "less" if y is None else "greater"
                elif x != y:
                    return "less" if (x < y) == (name == field) else "greater"
            return "alike"

        return word

    def test_records_without_a_field_come_last(self):
        up, down = Order.by(SHOP, "cost"), Order.by(SHOP, "-cost")
        self.assertEqual(
            [
                up(("pen", (5, 1)), ("ware", (0,))),
                down(("pen", (5, 1)), ("ware", (0,))),
                (-up)(("pen", (5, 1)), ("ware", (0,))),
            ],
            ["less", "less", "greater"],
        )
        self.assertNotEqual(-up, down)
        self.assertEqual(-Order.by(SHOP, "price"), Order.by(SHOP, "-price"))
        self.assertEqual(up, Order(SHOP, by_known("cost")))

    def test_names_that_are_no_fields(self):
        for thing in ODD:
            if thing != "price":
                self.assertIs(self.assert_raises(NoField, lambda: Order.by(SHOP, "price", thing, None)).field, thing)
        self.assert_raises(NoField, lambda: Order.by(SHOP, "-cost", "-begin", "end"), field="-begin")
        self.assert_raises(NoField, lambda: Order.by(TIMES, "begin", "-"), field="-")

    def test_too_many_for_fields(self):
        fields = tuple((name, "m") for name in "wxyz")
        family = Family(fields, *[(name, (), ("x", "y", "z")) for name in "pqrst"], ("u", (), ("x", "y")))
        self.assertEqual(Order.by(family, "x", "-y").reads, tuple((name, field) for name in "pqrstu" for field in "xy"))
        self.assertEqual(len(cells_of(family, *Order.by(family, "x", "y", "z").key[:2])), 68)
        wide = Family(
            (*fields, ("v", "n")),
            *[(name, (), ("x", "y", "z")) for name in "pqrstu"],
            ("o", (), ("x", "y", "z")),
            ("n", (), ("x", "y", "z")),
        )
        self.assert_raises(TooMany, lambda: Order.by(wide, "x", "y", "z"), cells=8 * 13)
        self.assert_raises(NoField, lambda: Order.by(wide, "x", "y", "z", "u"), field="u")
        self.assertEqual(len(Order.by(wide, "x", "y").reads), 16)

    def test_by_kinds(self):
        for family in FAMILIES:
            for row in [
                (),
                *[(kind,) for kind in family.names],
                *product(family.names, repeat=2),
                family.names,
                family.names[::-1],
            ]:

                def rank(record):
                    return min([at for at, kind in enumerate(row) if kind in family.line(record[0])], default=len(row))

                def word(one, other):
                    return "less" if rank(one) < rank(other) else "greater" if rank(one) > rank(other) else "alike"

                self.assert_says(Order.by_kinds(family, *row), word, some_records(family, (0,), 2))
        self.assertEqual(
            Order.by_kinds(SHOP, "pen", "ware").key,
            ((), (), (("alike", (("pen", ()),)), ("alike", (("book", ()), ("ware", ()))))),
        )
        for thing in (*ODD, "pens"):
            self.assertIs(self.assert_raises(NoKind, lambda: Order.by_kinds(SHOP, "pen", thing, None)).kind, thing)


class Saying(Case):
    def test_records(self):
        order = KNOWN[18][2]
        for thing in bent(("pen", (1, 2))):
            due = SHOP.is_record(thing)
            if not due:
                self.assertIs(self.assert_raises(NotRecord, lambda: order(thing, None)).thing, thing)
                self.assertIs(self.assert_raises(NotRecord, lambda: order(("pen", (1, 2)), thing)).thing, thing)
                self.assertIs(
                    self.assert_raises(NotRecord, lambda: order.row(("pen", (1, 2)), thing, None)).thing, thing
                )
        self.assertEqual(order(one=("pen", (1, 2)), other=("pen", (1, 2))), "alike")

    def test_places(self):
        for family, _, order in KNOWN:
            records = some_records(family, (0, 1000), 8)
            for one, other in product(records, repeat=2):
                x, y = order.place(one), order.place(record=other)
                self.assertIs(type(x), tuple)
                self.assertEqual({type(part) for part in x} - {int}, set())
                self.assertEqual("less" if x < y else "greater" if x > y else "alike", order(one, other))

    def test_the_parts_of_places(self):
        for family, _, order in KNOWN:
            for record in some_records(family, (0, 1000), 6):
                due, node = [], order.key[2]
                cell = reference.cell(family, order.reads, order.limits, record)
                while node:
                    at = next(number for number, block in enumerate(node) if cell in reference.cells_in(block))
                    due.append(at)
                    if node[at][0] == "by":
                        value = family.value(record, dict(node[at][2])[cell])
                        due.append(value if node[at][1] == "up" else -value)
                    node = node[at][3] if node[at][0] == "by" else ()
                self.assertEqual(order.place(record), tuple(due))
        self.assertEqual(Order.by(SINGLE, "-price").place(("pen", (7,))), (0, -7, 0))
        self.assertEqual(Order(SINGLE, "alike").place(("pen", (7,))), (0,))

    def test_rows(self):
        choice = random.Random(23)
        for family, _, order in KNOWN:
            records = choice.choices(some_records(family, (0, 1000), 6), k=25)
            found = order.row(*records)
            self.assertIs(type(found), tuple)
            self.assertEqual(list(found), sorted(records, key=order.place))
            # Those that are alike stay as they were passed.
            ranked = [
                (sum(order(other, record) == "less" for other in records), at) for at, record in enumerate(records)
            ]
            self.assertEqual(list(found), [records[at] for _, at in sorted(ranked)])
        self.assertEqual(order.row(), ())
        pens = [("pen", (3,)), ("book", (1,)), ("gift", (2,))]
        self.assertEqual(Order(SINGLE, "alike").row(*pens, *pens[:1]), (*pens, pens[0]))


class OneThenOther(Case):
    def test_two_orders(self):
        for family, limits, (one, other) in TWO:
            try:
                both = one + other
            except TooMany:
                continue
            self.assert_says(
                both,
                lambda r, s: one(r, s) if one(r, s) != "alike" else other(r, s),
                some_records(family, limits or (0,), 5),
            )

    def test_names(self):
        for family, _, order in KNOWN:
            for field, _ in family.fields[:2]:
                for name in (field, "-" + field):
                    self.assertEqual(order + name, order + Order.by(family, name))
                    self.assertEqual(name + order, Order.by(family, name) + order)
        times = Order.by(TIMES, "begin")
        self.assertEqual(times + "-end", Order.by(TIMES, "begin", "-end"))
        self.assertEqual("-end" + times, Order.by(TIMES, "-end", "begin"))
        for name in ("ends", "", "-", "--end", "end-", "price", *ODD):
            self.assertIs(self.assert_raises(NoField, lambda: times + name).field, name)
            self.assertIs(self.assert_raises(NoField, lambda: name + times).field, name)

    def test_nothing_is_changed(self):
        one, other = Order.by(TIMES, "begin"), Order.by(TIMES, "end")
        keys = one.key, other.key
        one + other, -one, one & other, one <= other, one == other, one + "end", one[("and",)], one.changed(
            ("and",), other
        )
        self.assertEqual((one.key, other.key), keys)
        self.assertEqual((one.reads, one.limits), keys[0][:2])


class Turned(Case):
    def test_turned(self):
        for family, _, order in KNOWN:
            self.assert_says(-order, lambda r, s: TURNED[order(r, s)], some_records(family, (0, 1000), 5))
            self.assertEqual(-(-order), order)
            self.assertEqual(-order == order, order == Order(family, "alike"))


class Finer(Case):
    def test_finer_and_equal(self):
        found = {True: 0, False: 0}
        for family, limits, (one, other) in TWO:
            for less, more in (
                (one, other),
                (other, one),
                (one, one),
                (one, one + other),
                (one + other, one),
                (one & other, other),
            ):
                records = less.beside(more)
                self.assertEqual(records is None, less <= more)
                self.assertEqual(
                    [less <= more, less < more, more >= less, more > less],
                    [records is None, records is None and less.key != more.key] * 2,
                )
                if records:
                    self.assert_pair(family, records)
                    self.assertEqual(less(*records), "less")
                    self.assertNotEqual(more(*records), "less")
                else:
                    for r, s in product(some_records(family, limits or (0,), 4), repeat=2):
                        self.assertFalse(less(r, s) == "less" != more(r, s))
                found[records is None] = found[records is None] + 1
        self.assertGreater(min(found.values()), 100)

    def assert_pair(self, family, records):
        self.assertEqual([type(records), *[family.is_record(record) for record in records]], [tuple, True, True])

    def test_equal_and_unlike(self):
        found = {True: 0, False: 0}
        for family, limits, (one, other) in TWO:
            for left, right in ((one, other), (one, one + one), (one, (one & other) + one), (one, -(-one))):
                records = left.unlike(right)
                same = left.key == right.key
                self.assertEqual([left == right, left != right, records is None], [same, not same, same])
                if records:
                    self.assert_pair(family, records)
                    self.assertNotEqual(left(*records), right(*records))
                found[same] = found[same] + 1
        self.assertGreater(min(found.values()), 50)

    def test_equal_orders_in_other_words(self):
        for family, comparison, order in KNOWN:
            again = Order(Family(family.fields[::-1], *family.kinds), ("if", ("and",), comparison, "less"))
            self.assertEqual(order, again)
            self.assertIs(order == again, True)
            self.assertIsNone(order.unlike(again))
            self.assertEqual(Order(family, ("if", ("or",), "less", comparison)), order)

    def test_no_other_value_is_equal(self):
        order = KNOWN[4][2]
        for thing in (*ODD, order.key, SINGLE, judge(SINGLE, "alike")):
            self.assertIs(order == thing, False)
            self.assertIs(thing == order, False)
            self.assertIs(order != thing, True)

    def test_orders_in_a_row(self):
        begins, nested, all_alike = Order.by(TIMES, "begin"), Order.by(TIMES, "begin", "-end"), Order.by(TIMES)
        self.assertEqual(
            [
                all_alike < begins < nested,
                nested > begins > all_alike,
                nested < begins,
                begins < begins,
                begins <= begins,
                begins >= begins,
            ],
            [True, True, False, False, True, True],
        )
        self.assertEqual(
            [begins <= Order.by(TIMES, "end"), begins >= Order.by(TIMES, "end"), begins == Order.by(TIMES, "end")],
            [False] * 3,
        )


class Common(Case):
    def test_what_is_common(self):
        found = 0
        for family, limits, (one, other, third) in groups_of_orders(120, 3):
            try:
                both = one & other
                self.assertIs(is_normal(family, both.key), True)
                self.assertTrue(both <= one and both <= other)
                self.assertEqual(both, other & one)
                # It is the finest one: so each other one that is common to both is not finer.
                for least in (third, one & third, other & third, (one & third) & other, one & (other + third)):
                    if least <= one and least <= other:
                        self.assertTrue(least <= both)
                        found = found + 1
                self.assertEqual(one <= other, both == one)
            except TooMany:
                pass
        self.assertGreater(found, 150)

    def test_by_what_they_say(self):
        for fields, others, due in (
            (("begin", "end"), ("begin", "-end"), ("begin",)),
            (("begin",), ("end",), ()),
            (("begin", "end"), ("end", "begin"), ()),
            (("begin", "end"), ("begin",), ("begin",)),
            (("-begin",), ("begin",), ()),
        ):
            self.assertEqual(Order.by(TIMES, *fields) & Order.by(TIMES, *others), Order.by(TIMES, *due))
        kinds = Order.by_kinds(BARE, "both", "left", "right")
        self.assertEqual(kinds & Order.by_kinds(BARE, "left", "right"), Order.by_kinds(BARE, "left", "right"))
        self.assertEqual(
            kinds & Order.by_kinds(BARE, "both", "right", "left"),
            Order(
                BARE,
                first(("is", "a", "both"), apart(("or", ("is", "a", "left"), ("is", "a", "right")), "alike", "alike")),
            ),
        )

    def test_blocks_with_as_many_cells_are_not_enough(self):
        one = Order.by_kinds(BARE, "both", "left", "right")
        other = Order(
            BARE,
            first(
                ("and", ("is", "a", "left"), ("not", ("is", "a", "both"))),
                first(("is", "a", "both"), first(("is", "a", "right"))),
            ),
        )
        self.assertEqual(one & other, Order(BARE, apart(("is", "a", "left"), "alike", first(("is", "a", "right")))))

    def test_one_block_that_is_partly_by_values(self):
        price = Order.by(SINGLE, "price")
        only_pens = Order(SINGLE, apart(("is", "a", "pen"), by("price"), "alike"))
        self.assertEqual(price & only_pens, Order(SINGLE, "alike"))
        pens_first = Order(SINGLE, apart(("is", "a", "pen"), by("price"), by("-price")))
        self.assertEqual(pens_first & only_pens, only_pens)
        self.assertEqual(only_pens & pens_first, only_pens)


class Both(Case):
    def test_both(self):
        found = {True: 0, False: 0}
        for family, limits, (one, other) in TWO:
            for left, right in (
                (one, other),
                (one, one + other),
                (one & other, other),
                (one, -one),
                (one[("and",)], one),
            ):
                records = some_records(family, limits or (0,), 5)
                try:
                    both = left | right
                except TooMany:
                    continue
                except Opposite as error:
                    self.assertTrue(family.is_record(error.one) and family.is_record(error.other))
                    self.assertEqual([left(error.one, error.other), right(error.one, error.other)], ["less", "greater"])
                    found[False] = found[False] + 1
                    continue
                found[True] = found[True] + 1
                for r, s in product(records, repeat=2):
                    self.assertNotEqual({left(r, s), right(r, s)}, {"less", "greater"})

                def word(r, s):
                    return next((said for said in (left(r, s), right(r, s)) if said != "alike"), "alike")

                self.assert_says(both, word, records)
        self.assertGreater(min(found.values()), 80)

    def test_examples(self):
        begins = Order.by(TIMES, "begin")
        self.assertEqual(begins | (begins + "end"), begins + "end")
        self.assertEqual(begins | Order.by(TIMES), begins)
        self.assert_raises(Opposite, lambda: begins | Order.by(TIMES, "end"))
        low, high = Order(SINGLE, where(under(0, "price"), by("price"), first(under(0, "price")))), Order(
            SINGLE, where(over(0, "price"), by("-price"), first(("not", over(0, "price"))))
        )
        self.assertEqual(
            low | high,
            Order(
                SINGLE,
                first(
                    under(0, "price"),
                    where(
                        under(0, "price"),
                        by("price"),
                        first(("not", over(0, "price")), where(over(0, "price"), by("-price"), "alike")),
                    ),
                ),
            ),
        )


class Within(Case):
    def test_within(self):
        choice = random.Random(24)
        for family, limits, (order, _) in TWO:
            condition = condition_from(choice, tests_of(family, "a", limits), 2)
            try:
                within = order[condition]
            except TooMany:
                continue

            def word(r, s):
                one, other = holds(family, condition, r), holds(family, condition, s)
                return order(r, s) if one and other else "less" if one else "greater" if other else "alike"

            self.assert_says(within, word, some_records(family, limits or (0,), 5))

    def test_all_and_none(self):
        for family, _, order in KNOWN:
            self.assertEqual(order[("and",)], order)
            self.assertEqual(order[("or",)], Order(family, "alike"))

    def test_values_that_are_no_conditions(self):
        order = KNOWN[16][2]
        known = samples.Judge(SHOP, "a")
        for thing in bent(("and", ("is", "a", "pen"), ("not", under(0, "price")))):
            if known.is_condition(thing):
                self.assertIs(type(order[thing]), Order)
            else:
                self.assertIs(self.assert_raises(BadCondition, lambda: order[thing]).thing, thing)
        self.assert_raises(BadCondition, lambda: order[("less", ("a", "price"), ("b", "price"))])

    def test_it_is_not_iterated_over(self):
        self.assertRaises(TypeError, lambda: list(KNOWN[0][2]))
        self.assertRaises(TypeError, lambda: ("and",) in KNOWN[0][2])


class Changed(Case):
    def changed_word(self, family, order, condition, other):
        return lambda r, s: (other if holds(family, condition, r) and holds(family, condition, s) else order)(r, s)

    def test_changed(self):
        choice = random.Random(25)
        found = {True: 0, False: 0}
        for family, limits, (order, other) in (*TWO, *groups_of_orders(100)):
            condition = condition_from(choice, tests_of(family, "a", limits), 1)
            word = self.changed_word(family, order, condition, other)
            try:
                changed = order.changed(condition=condition, other=other)
            except TooMany:
                continue
            except NotOrder as error:
                records = error.records
                self.assertTrue(all(family.is_record(record) for record in records) and type(records) is tuple)
                self.assertTrue(broken(lambda one, two: word(records[one], records[two]), len(records)))
                self.assertIs(type(error.__cause__), Broken)
                self.assertEqual(error.__cause__.records, records)
                found[False] = found[False] + 1
                continue
            found[True] = found[True] + 1
            self.assert_says(changed, word, some_records(family, limits or (0,), 5))
        self.assertGreater(min(found.values()), 40)

    def test_examples(self):
        for family, _, order in KNOWN:
            self.assertEqual(order.changed(("and",), -order), -order)
            self.assertEqual(order.changed(("or",), -order), order)
            self.assertEqual(order.changed(("and",), order), order)
        price = Order.by(SINGLE, "price")
        self.assertEqual(
            price.changed(under(0, "price"), -price), Order(SINGLE, where(under(0, "price"), by("-price"), by("price")))
        )
        error = self.assert_raises(NotOrder, lambda: price.changed(("is", "a", "pen"), -price))
        self.assertEqual(len(error.records), 3)

    def test_values_that_are_no_conditions(self):
        order = KNOWN[16][2]
        known = samples.Judge(SHOP, "a")
        for thing in bent(("not", ("is", "a", "pen"))):
            if not known.is_condition(thing):
                self.assertIs(self.assert_raises(BadCondition, lambda: order.changed(thing, order)).thing, thing)


class Errors(Case):
    FAMILY = Family((("x", "m"), ("y", "m"), ("z", "m"), ("w", "n")), ("k", (), ("w", "x", "y", "z")), ("o", (), ()))

    def test_other_families(self):
        wares = Family(SHOP.fields, SHOP.kinds[0], SHOP.kinds[2], SHOP.kinds[1])
        for one, other in (
            (Order.by(SHOP, "price"), Order.by(TIMES, "begin")),
            (Order.by(SHOP), Order.by(wares)),
            (Order.by(Family(())), Order.by(BARE)),
        ):
            for call in (
                lambda: one + other,
                lambda: one & other,
                lambda: one | other,
                lambda: one <= other,
                lambda: one < other,
                lambda: one >= other,
                lambda: one > other,
                lambda: one.unlike(other),
                lambda: one.beside(other),
                lambda: one.changed(None, other),
                lambda: one.changed(("and",), other),
            ):
                self.assert_raises(OtherFamily, call)
            self.assertIs(one == other, False)
            self.assertIs(one != other, True)
        for thing in ODD:
            for call in (lambda: one.unlike(thing), lambda: one.beside(thing), lambda: one.changed(("and",), thing)):
                self.assert_raises(OtherFamily, call)
            for call in (
                lambda: one & thing,
                lambda: one | thing,
                lambda: one < thing,
                lambda: one <= thing,
                lambda: one > thing,
                lambda: one >= thing,
            ):
                self.assertRaises(TypeError, call)
        self.assertEqual(Order.by(SHOP, "price"), Order.by(Family(SHOP.fields[::-1], *SHOP.kinds), "price"))

    def test_too_many_together(self):
        steps = Order(
            self.FAMILY, first(under(0, "w"), first(under(1000, "w"), first(under(2000, "w"), first(under(3000, "w")))))
        )
        three = Order.by(self.FAMILY, "x", "-y", "z")
        self.assertEqual(len(steps.limits), 4)
        # Four limits make 9 cells of one value, no limit 13 of three values; and there is the other kind.
        for call in (
            lambda: steps + three,
            lambda: three & steps,
            lambda: three | steps,
            lambda: three <= steps,
            lambda: three < steps,
            lambda: three >= steps,
            lambda: three > steps,
            lambda: three.unlike(steps),
            lambda: three.beside(steps),
            lambda: three.changed(("and",), steps),
            lambda: three.changed(under(0, "w"), steps),
            lambda: three[("or", *[under(1000 * at, "w") for at in range(4)])],
            lambda: three.changed(("or", under(0, "w"), under(1000, "w"), under(2000, "w"), under(3000, "w")), three),
        ):
            self.assert_raises(TooMany, call, cells=9 * 13 + 1)
        self.assertIs(three == steps, False)
        self.assert_raises(BadCondition, lambda: three.changed(("is", "b", "k"), steps))
        # A name is read in all kinds that have it, also if an order by it alone would not matter.
        self.assert_raises(
            TooMany,
            lambda: Order.by(self.FAMILY, "x", "y", "z")
            + Order(self.FAMILY, first(under(0, "x"), first(under(1000, "x")))),
            cells=234,
        )
        wide = steps + "x"
        self.assert_raises(TooMany, lambda: wide + "y" + "z", cells=9 * 13 + 1)
        self.assert_raises(TooMany, lambda: "-z" + ("-y" + wide), cells=9 * 13 + 1)
        self.assert_raises(NoField, lambda: wide + "y" + "v", field="v")

    def test_too_many_for_a_comparison(self):
        reading = (
            "or",
            under(0, "w"),
            under(1000, "w"),
            under(2000, "w"),
            under(3000, "w"),
            ("less", ("a", "x"), ("a", "y")),
            ("less", ("a", "x"), ("a", "z")),
        )
        self.assert_raises(TooMany, lambda: Order(self.FAMILY, first(reading)), cells=9 * 13 + 1)
        self.assert_raises(TooMany, lambda: Order(self.FAMILY, ("if", reading, "less", "greater")), cells=9 * 13 + 1)

    def test_just_a_hundred_cells(self):
        # 99 cells of one value beside 49 limits, and the other kind.
        family = Family((("x", "m"), ("y", "m")), ("k", (), ("x",)), ("o", (), ()))
        limits = tuple(("m", 1000 * at) for at in range(49))
        cells = [cell for cell in cells_of(family, (("k", "x"),), limits) if cell[0] == "k"]
        choice = random.Random(26)
        keys = [
            (
                (("k", "x"),),
                limits,
                tuple(
                    ("alike", tuple(sorted(row))) for row in ([cell] for cell in [*choice.sample(cells, 99), ("o", ())])
                ),
            )
            for _ in range(2)
        ]
        one, other = [Order.of(family, key) for key in keys]
        self.assertEqual([len(cells_of(family, order.reads, order.limits)) for order in (one, other)], [100, 100])
        records = [("k", (value,)) for value in range(-1000, 49001, 500)] + [("o", ())]
        self.assert_says(one, lambda r, s: key_word(family, keys[0], r, s), records[::9])
        self.assert_says(one + other, lambda r, s: key_word(family, keys[0], r, s), records[::9])
        self.assertEqual((one & other) <= one, True)
        self.assertEqual([one <= other, one == other, one == -(-one)], [False, False, True])
        self.assertEqual(
            [one(*one.unlike(other)) == other(*one.unlike(other)), one(*one.beside(other)), other(*one.beside(other))],
            [False, "less", "greater"],
        )
        self.assert_raises(Opposite, lambda: one | other)
        self.assert_raises(TooMany, lambda: one[under(-1000, "x")], cells=102)
        self.assertEqual(
            one[under(10000, "x")].row(*records)[:5],
            one.row(*[record for record in records if record[0] == "k" and record[1][0] < 10000])[:5],
        )


class AtTheLimits(Case):
    # Eight fields, six kinds, four fields of a kind, three of them of one measure; with one limit 82 cells.
    FULL = Family(
        (*[(name, "m") for name in "abc"], ("d", "n"), *[(name, "o") for name in "efg"], ("h", "p")),
        *[(name, (), tuple("abcd")) for name in ("one", "two")],
        *[(name, (), tuple("efgh")) for name in ("three", "four", "five", "six")],
    )
    LIMIT = 999_999_999_000
    # Thirty tests at most, twelve levels, conditions on eight levels.
    COMPARISON = apart(deep(("less", ("a", "d"), LIMIT), 6), by("a", "-b", "c"), by("-d", "c", "b", "a"))

    def records(self, times):
        choice = random.Random(27)
        for _ in range(times):
            kind = choice.choice(self.FULL.names)
            far = choice.choice((0, 10**29, -(10**29), self.LIMIT))
            yield kind, tuple(far + choice.randint(-2, 2) for _ in range(4))

    def test_the_greatest_comparisons(self):
        # Those of the other kinds have none of the values: so they stand behind, and with each other they are alike.
        comparison = apart(("or", ("is", "a", "one"), ("is", "a", "two")), self.COMPARISON, "alike")
        order = Order(self.FULL, comparison)
        self.assertEqual([order.limits, len(order.reads)], [(("n", self.LIMIT),), 8])
        self.assertEqual(len(cells_of(self.FULL, order.reads, order.limits)), 82)
        records = list(self.records(40))
        self.assert_says(order, reference.worded(self.FULL, comparison), records)
        self.assert_says(-order, reference.worded(self.FULL, turned_words(comparison)), records)
        more = order + "e" + "-h"
        self.assertEqual([order < more, order <= -more, order & more, order | more], [True, False, order, more])
        self.assert_raises(TooMany, lambda: more[under(0, "d")], cells=130 + 4)

    def test_two_hundred_records(self):
        order = Order.by(self.FULL, "-a", "b", "h") + Order.by_kinds(self.FULL, "five", "two")
        records = list(self.records(200))
        found = order.row(*records)
        self.assertEqual(len(found), 200)
        self.assertEqual(sorted(records, key=order.place), list(found))
        for one, other in zip(found, found[1:]):
            self.assertNotEqual(order(one, other), "greater")


def turned_words(comparison):
    """A comparison that says greater for less and less for greater."""
    if isinstance(comparison, str):
        return TURNED[comparison]
    return (*comparison[:2], *map(turned_words, comparison[2:]))


if __name__ == "__main__":
    unittest.main()
