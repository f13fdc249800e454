"""The whole program: what one part tells, asked of the others."""

import random
import unittest
from functools import cmp_to_key
from itertools import product

from keybehind.cells import cells_of
from keybehind.conditions import holds, is_comparison, read_comparison, read_condition, says, written
from keybehind.drafts import Draft
from keybehind.errors import Broken, NotOrder, Opposite, OrderError, TooMany
from keybehind.families import Family
from keybehind.findings import finding_holds
from keybehind.judging import broken_holds, judge, key_holds
from keybehind.keys import is_key, is_normal, is_plain, key_says, normal, parting, plain
from keybehind.operators import Operators
from keybehind.orders import Order
from keybehind.runs import obstacle, row_with, runs
from keybehind.shelves import Shelf
from tests import reference
from tests.classes import SIGNS, due
from tests.comparisons import BROKEN, ORDERS, apart, by, by_known, first, over, under, where
from tests.drawn import LIMITS, any_comparison, any_family
from tests.helpers import SHOP, TIMES
from tests.reference import FAMILIES, TURNED, broken, is_order
from tests.samples import condition_from, tests_of
from tests.test_operators import answers
from tests.test_orders import any_order, some_records

NUMBERS = {"less": -1, "alike": 0, "greater": 1}


class Sorting(unittest.TestCase):
    def test_in_all_ways_alike(self):
        choice = random.Random(101)
        for family, comparison in ORDERS:
            order = Order(family, comparison)
            tops = [kind for kind, bases, _ in family.kinds if not bases]
            operators = Operators(family, *[(kind, "<", answers(comparison, "<")) for kind in tops])
            records = choice.choices(some_records(family, (0, 1000), 6), k=40)
            rows = order.row(*records)
            self.assertEqual(list(rows), sorted(records, key=order.place))
            self.assertEqual(list(rows), sorted(records, key=cmp_to_key(lambda r, s: NUMBERS[order(r, s)])))
            self.assertEqual(
                list(rows), sorted(records, key=cmp_to_key(lambda r, s: NUMBERS[says(family, comparison, r, s)]))
            )
            self.assertEqual(
                list(rows), sorted(records, key=cmp_to_key(lambda r, s: NUMBERS[key_says(family, order.key, r, s)]))
            )
            self.assertEqual(Shelf(order, *records).rows, rows)
            shelf = Shelf(order)
            for record in records:
                shelf += record
            self.assertEqual(shelf.rows, rows)
            self.assertEqual(list(rows), [thing.record for thing in sorted(self.things(operators, records))])
            self.assertEqual(operators.by_less().row(*records), rows)
            self.assertEqual(Draft(order).order.row(*records), rows)

    def things(self, operators, records):
        """Objects that answer to "<" alone, as operators do."""

        class Thing:
            def __init__(self, record):
                self.record = record

            def __lt__(self, other):
                return operators.ask("<", self.record, other.record) == "yes"

        return [Thing(record) for record in records]

    def test_signs_and_orders(self):
        choice = random.Random(102)
        for family, comparison in ORDERS[::2]:
            order = Order(family, comparison)
            tops = [kind for kind, bases, _ in family.kinds if not bases]
            operators = Operators(family, *[(kind, sign, answers(comparison, sign)) for kind in tops for sign in SIGNS])
            for r, s in product(choice.sample(some_records(family, (0,), 4), 3), repeat=2):
                self.assertEqual([operators.ask(sign, r, s) for sign in SIGNS], [due(sign, order(r, s)) for sign in SIGNS])
                self.assertEqual([operators.ask(sign, s, r) for sign in SIGNS], [due(sign, TURNED[order(r, s)]) for sign in SIGNS])


class StepByStep(unittest.TestCase):
    """Orders made from orders, each step beside what it is to say of all pairs of records."""

    def test_steps(self):
        choice = random.Random(103)
        found = {}
        for _ in range(60):
            family = choice.choice(FAMILIES)
            order = any_order(choice, family)
            records = some_records(family, (0,), 4)
            word = {(r, s): order(r, s) for r, s in product(records, repeat=2)}
            for _ in range(6):
                name, made, told = self.step(choice, family, order, word)
                found[name] = found.get(name, 0) + 1
                if made is None:
                    continue
                order, word = made, {pair: told(*pair) for pair in word}
                for (r, s), said in word.items():
                    self.assertEqual(order(r, s), said, name)
                self.assertIs(is_normal(family, order.key), True)
                self.assertEqual(Order.of(family, order.key), order)
        self.assertGreater(min(found.values()), 10)

    def step(self, choice, family, order, word):
        """A step's name, the order that it makes (or None) and what this is to say of two records."""
        other = any_order(choice, family, (0,), 2)
        condition = condition_from(choice, tests_of(family, "a", (0,)), 1)
        name = choice.choice(("+", "+name", "name+", "-", "|", "[]", "changed"))
        field = choice.choice(("", "-")) + choice.choice([field for field, _ in family.fields] or [""])
        if "name" in name and not family.fields:
            name = "-"
        single = Order.by(family, field) if family.fields else order
        held = order

        def then(one, last):
            return lambda r, s: one(r, s) if one(r, s) != "alike" else last(r, s)

        def within(r, s):
            mine, yours = holds(family, condition, r), holds(family, condition, s)
            return word[(r, s)] if mine and yours else "less" if mine else "greater" if yours else "alike"

        def changed(r, s):
            both = holds(family, condition, r) and holds(family, condition, s)
            return other(r, s) if both else word[(r, s)]

        def said(r, s):
            return word[(r, s)]

        try:
            if name == "+":
                return name, order + other, then(said, other)
            if name == "+name":
                return name, order + field, then(said, single)
            if name == "name+":
                return name, field + order, then(single, said)
            if name == "-":
                return name, -order, lambda r, s: TURNED[said(r, s)]
            if name == "[]":
                return name, order[condition], within
            if name == "|":
                return name, order | other, then(said, other)
            return name, order.changed(condition, other), changed
        except Opposite as error:
            self.assertEqual([held(error.one, error.other), other(error.one, error.other)], ["less", "greater"])
        except NotOrder as error:
            some = error.records
            said_of = Order.__call__

            def told(one, last):
                both = holds(family, condition, some[one]) and holds(family, condition, some[last])
                return said_of(other if both else held, some[one], some[last])

            self.assertTrue(broken(told, len(some)))
            self.assertIs(type(error.__cause__), Broken)
        except TooMany as error:
            self.assertGreater(error.cells, 100)
        return name, None, None

    def test_drafts_and_shelves_through_all_steps(self):
        choice = random.Random(104)
        for _ in range(25):
            family = choice.choice(FAMILIES)
            records = choice.choices(some_records(family, (0,), 5), k=15)
            order = any_order(choice, family)
            draft, shelf, orders = Draft(order), Shelf(order, *records), [order]
            for _ in range(6):
                word = {(r, s): draft.order(r, s) for r, s in product(records, repeat=2)}
                _, made, _ = self.step(choice, family, draft.order, word)
                if made is not None:
                    draft.order = made
                    orders.append(made)
                    shelf.order = draft.order
                self.assertEqual(shelf.rows, draft.order.row(*shelf.rows))
                self.assertEqual(sorted(shelf.rows), sorted(records))
            for order in orders[::-1]:
                self.assertEqual(draft.order, order)
                if len(draft):
                    draft.undo()


class Guarantee(unittest.TestCase):
    def test_one_or_the_other(self):
        # Each comparison is an order with a key or broken, never both; and each answer can be checked.
        choice = random.Random(105)
        for _ in range(250):
            family, limits = any_family(choice), choice.choice(LIMITS)
            comparison = any_comparison(choice, family, limits)
            try:
                word, found = judge(family, comparison)
            except TooMany:
                continue
            self.assertIs(key_holds(family, comparison, found), word == "key")
            self.assertIs(broken_holds(family, comparison, found), word == "broken")
            self.assertIs(finding_holds(("order" if word == "key" else "broken", family, comparison, found)), True)
            if word == "key":
                order = Order(family, comparison)
                self.assertEqual((order.key, normal(family, found)), (found, found))
                self.assertIs(is_plain(family, found) and is_normal(family, found), True)
            else:
                self.assertIs(is_key(family, found), False)

    def test_two_orders(self):
        choice = random.Random(106)
        for _ in range(120):
            family = choice.choice(FAMILIES)
            one, other = any_order(choice, family), any_order(choice, family)
            unlike = one.unlike(other)
            self.assertEqual(unlike is None, one.key == other.key)
            self.assertEqual(parting(family, one.key, other.key) is None, one == other)
            self.assertEqual(one == other, one <= other and other <= one)
            try:
                common = one & other
                self.assertTrue(common <= one and common <= other and one <= one + other)
                self.assertEqual(common == one, one <= other)
            except TooMany:
                pass
            if unlike:
                self.assertNotEqual(one(*unlike), other(*unlike))

    def test_runs_and_serving(self):
        choice = random.Random(107)
        for _ in range(80):
            family = choice.choice(FAMILIES)
            order, wish = any_order(choice, family), any_order(choice, family, (0,), 2)
            condition = condition_from(choice, tests_of(family, "a", (0,)), 1)
            most = runs(order, condition)
            many = choice.randint(0, 9) if most is None else most
            row = row_with(order, condition, many)
            shelf = Shelf(order, *row)
            self.assertEqual(len(shelf[condition]), many)
            self.assertIs(finding_holds(("runs", order, condition, row, many)), True)
            # Within the condition those that have it stand together.
            within = order[condition]
            self.assertIn(runs(within, condition), (0, 1))
            self.assertIs(finding_holds(("serves", order, within, condition)), True)
            blocked = obstacle(order, wish, condition)
            if blocked:
                self.assertTrue(holds(family, condition, blocked[0]) and holds(family, condition, blocked[1]))
                self.assertEqual(wish(*blocked), "less")
                self.assertNotEqual(order(*blocked), "less")


class Texts(unittest.TestCase):
    def test_families_read_from_their_texts(self):
        choice = random.Random(108)
        for family, comparison in (*ORDERS, *[row[1:] for row in BROKEN]):
            again = Family.read(family.text)
            self.assertEqual(again, family)
            self.assertEqual(judge(again, comparison), judge(family, comparison))
            self.assertEqual(read_comparison(again, written(comparison)), comparison)
            if judge(family, comparison)[0] == "broken":
                continue
            order, other = Order(family, comparison), Order(again, comparison)
            self.assertEqual(order, other)
            self.assertEqual((order + other, order & other, order | other), (order, order, order))
            condition = condition_from(choice, tests_of(family, "a", (0,)), 1)
            condition = read_condition(again, written(condition))
            try:
                self.assertEqual(order[condition], other[condition])
                self.assertEqual(runs(order, condition), runs(other, condition))
            except TooMany as error:
                self.assertGreater(error.cells, 100)
            records = some_records(family, (0, 1000), 3)
            self.assertEqual(Shelf(order, *records).merged(Shelf(other)).rows, Shelf(other, *records).rows)
            draft = Draft(order)
            draft.order = other
            self.assertIs(finding_holds(("equal", order, draft.order)), True)

    def test_other_names_that_ascend_alike(self):
        # Names tell nothing but how they ascend: so the keys are the same with other names.
        for family, comparison in (*ORDERS, *[row[1:] for row in BROKEN]):
            names = self.other_names(family)
            again = Family(
                tuple((names[field], names[measure]) for field, measure in family.fields),
                *[(names[kind], tuple(names[base] for base in bases), tuple(names[field] for field in own))
                  for kind, bases, own in family.kinds],
            )
            other = renamed(comparison, names)
            self.assertIs(is_comparison(again, other), True)
            word, found = judge(family, comparison)
            self.assertEqual(judge(again, other), (word, renamed(found, names)))
            if word == "key":
                for record in some_records(family, (0, 1000), 3):
                    place = Order(family, comparison).place(record)
                    self.assertEqual(Order(again, other).place(renamed(record, names)), place)

    def other_names(self, family):
        """Other names for all names of a family; they ascend as these do."""
        olds = sorted({*family.names, *[field for field, _ in family.fields], *family.measures})
        return {old: "n" + "abcdefghijklmnopqrstuvwxyz"[at] * 2 for at, old in enumerate(olds)}


def renamed(thing, names):
    """A comparison, a key or records with other names; "a" and "b" in tests, and the words, stay."""
    if isinstance(thing, str):
        return names.get(thing, thing)
    if not isinstance(thing, tuple):
        return thing
    if thing and thing[0] == "is" and len(thing) == 3:
        return ("is", thing[1], names[thing[2]])
    if len(thing) == 2 and thing[0] in ("a", "b") and isinstance(thing[1], str):
        return (thing[0], names[thing[1]])
    if thing and thing[0] in ("if", "not", "and", "or", "less", "same", "alike", "by"):
        return (thing[0], *[renamed(part, names) for part in thing[1:]])
    return tuple(renamed(part, names) for part in thing)


class AtTheLimits(unittest.TestCase):
    # 99 cells of one value and 49 limits, and one of a kind without values.
    HUNDRED = Family((("x", "m"), ("y", "n")), ("k", (), ("x",)), ("o", (), ()))
    LAST = 999_999_999_000

    def limits(self, many):
        return [1000 * at for at in range(many - 1)] + [self.LAST]

    def striped(self, limits):
        """The records between each second pair of limits come first; told by twos in a key."""
        named = tuple(("m", limit) for limit in limits)
        cells = cells_of(self.HUNDRED, (("k", "x"),), named)
        rows = [[], []]
        for at, cell in enumerate(cells):
            rows[at % 2].append(cell)
        return Order.of(self.HUNDRED, ((("k", "x"),), named, tuple(("alike", tuple(row)) for row in rows)))

    def test_just_a_hundred_cells(self):
        order = self.striped(self.limits(49))
        self.assertEqual(len(cells_of(self.HUNDRED, *order.key[:2])), 100)
        records = [("k", (value,)) for limit in self.limits(49) for value in (limit - 1, limit, limit + 1)] + [("o", ())]
        condition = ("or", *[under(limit, "x") for limit in self.limits(49)[::2]])
        for made, said in (
            (order + "x", lambda r, s: order(r, s) if order(r, s) != "alike" else Order.by(self.HUNDRED, "x")(r, s)),
            ("-x" + order, lambda r, s: Order.by(self.HUNDRED, "-x")(r, s) if r != s else "alike"),
            (-order, lambda r, s: TURNED[order(r, s)]),
            (order & order, order),
            (order | Order(self.HUNDRED, "alike"), order),
            (order.changed(condition, order), order),
            (order[("and", condition, ("not", ("or",)))], None),
        ):
            self.assertIs(is_normal(self.HUNDRED, made.key), True)
            for r, s in product(records[::7], repeat=2):
                if said:
                    self.assertEqual(made(r, s), said(r, s))
        self.assertEqual([order < order + "x", order <= -order, order == -(-order)], [True, False, True])
        self.assertEqual(runs(order, condition), None)
        row = row_with(order, condition, 100)
        self.assertIs(finding_holds(("runs", order, condition, row, 100)), True)
        self.assertIs(finding_holds(("unlike", order, -order, *order.unlike(-order))), True)
        shelf = Shelf(order, *records)
        shelf.order = order + "-x"
        self.assertEqual(shelf.rows, (order + "-x").row(*records))
        draft = Draft(order)
        draft += "x"
        draft[condition] = draft.order
        self.assertEqual([draft.order, len(draft)], [order + "x", 2])

    def test_one_more_is_too_many(self):
        order = self.striped(self.limits(49))
        condition = under(-1000, "x")
        for call in (
            lambda: order[condition],
            lambda: order.changed(condition, order),
            lambda: runs(order, condition),
            lambda: row_with(order, condition, 1),
            lambda: obstacle(order, order, condition),
            lambda: plain(self.HUNDRED, order.key, (), (("m", -1000),)),
            lambda: order + Order(self.HUNDRED, first(under(-1000, "x"))),
            lambda: Draft(order)[condition],
            lambda: Operators(self.HUNDRED, ("k", "<", ("if", condition, "yes", "no"))).otherwise("<", order),
        ):
            with self.assertRaises(TooMany) as caught:
                call()
            self.assertEqual(caught.exception.cells, 102)
        self.assertEqual(Shelf(order)[condition], ())

    def test_the_deepest_comparisons(self):
        # Thirty tests, twelve ifs in each other, conditions on eight levels, the greatest limits and values.
        condition = over(-self.LAST, "x")
        for word in ("not", "and", "or", "not", "and", "or"):
            condition = (word, condition)
        tree = "alike"
        for at in range(6):
            mine = ("and", condition, under(1000 * at, "x"))
            tree = first(mine, tree) if at < 3 else where(mine, tree, tree) if at < 4 else tree
        tree = apart(condition, by("x"), tree)
        family = Family(self.HUNDRED.fields, *self.HUNDRED.kinds, *[(kind, ("k",), ()) for kind in "lpqr"])
        word, found = judge(family, tree)
        self.assertIn(word, ("key", "broken"))
        self.assertIs(finding_holds(("order" if word == "key" else "broken", family, tree, found)), True)
        far = ("k", (10**30 - 1,)), ("k", (1 - 10**30,))
        order = Order.by(family, "-x")
        self.assertEqual(order.row(*far[::-1]), far)
        self.assertEqual(order.place(far[0])[1], 1 - 10**30)

    def test_the_largest_families(self):
        fields = tuple((name, measure) for name, measure in zip("abcdefgh", "mmmnnnoo"))
        family = Family(
            fields,
            ("one", (), tuple("abcd")),
            ("two", (), tuple("efgh")),
            ("three", (), tuple("adg")),
            ("four", ("three",), ("h",)),
            ("five", (), ()),
            ("six", ("five",), ("b",)),
        )
        comparison = by_known("a", "-d", rest=by_known("h", "b"))
        order = Order(family, comparison)
        self.assertEqual(order, Order.by(family, "a", "-d", "h", "b"))
        operators = Operators(family, *[(kind, sign, answers(comparison, sign)) for kind in family.names for sign in ("<", ">")])
        self.assertEqual(len(operators.entries), 12)
        self.assertEqual(operators.by_less(), order)
        self.assertIsNone(operators.otherwise(">", order))
        records = random.Random(109).choices(some_records(family, (), 9), k=200)
        self.assertEqual(Shelf(order, *records).rows, order.row(*records))
        self.assertEqual(Order(family, apart(("is", "a", "three"), comparison, "alike")), order[("is", "a", "three")])


class Conventions(unittest.TestCase):
    def test_what_is_refused_changes_nothing(self):
        order = Order.by(TIMES, "begin")
        shelf, draft = Shelf(order, ("span", (1, 2))), Draft(order)
        for call in (
            lambda: shelf.put(("span", (0, 0)), ("span", (1,))),
            lambda: shelf.take(("span", (2, 1))),
            lambda: shelf.set_order(Order.by(SHOP, "price")),
            lambda: draft.set_order(Order.by(SHOP, "price")),
            lambda: draft.change(("and",), None),
            lambda: draft.change(None, order),
            draft.undo,
        ):
            with self.assertRaises(OrderError):
                call()
            self.assertEqual((shelf.rows, shelf.order, draft.order, len(draft)), ((("span", (1, 2)),), order, order, 0))

    def test_the_key_does_not_hang_on_how_an_order_came(self):
        nested = Order.by(TIMES, "begin", "-end")
        late = over(2000, "begin")
        ways = (
            Order(TIMES, by("begin", "-end")),
            Order.by(TIMES, "begin") + "-end",
            "begin" + Order.by(TIMES, "-end"),
            -(Order.by(TIMES, "-begin") + "end"),
            nested & (nested + "end"),
            nested | Order.by(TIMES, "begin"),
            Order.by(TIMES, "begin").changed(("and",), nested),
            nested.changed(late, nested),
            nested[late].changed(("not", late), nested).changed(("and",), nested),
            Order.of(TIMES, plain(TIMES, nested.key, (), (("time", 0), ("time", 1000)))),
            Draft(nested).tried(lambda draft: draft.order),
            Operators(TIMES, ("span", "<", answers(by("begin", "-end"), "<"))).by_less(),
        )
        self.assertEqual({repr(order.key) for order in ways}, {repr(nested.key)})

    def test_brute_force_over_all_operations(self):
        # What is judged to be an order is one of all records that show all ways to lie.
        choice = random.Random(110)
        for _ in range(40):
            family = choice.choice((TIMES, reference.SINGLE, reference.BARE))
            one, other = any_order(choice, family, ()), any_order(choice, family, ())
            records = reference.all_ways(family, (), 3)
            records = choice.sample(records, min(30, len(records)))
            for order in (one + other, one & other, -one):
                self.assertTrue(is_order([[order(r, s) for s in records] for r in records]))


if __name__ == "__main__":
    unittest.main()
