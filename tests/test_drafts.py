"""Drafts: what changes them, how changes are taken back, and what is only tried."""

import random
import unittest

from keybehind.drafts import Draft
from keybehind.errors import BadCondition, Broken, NoField, NotOrder, NothingThere, Opposite, OtherFamily, TooMany
from keybehind.families import Family
from keybehind.orders import Order
from tests import helpers, reference
from tests.comparisons import ORDERS, by, first, under
from tests.helpers import SHOP, TIMES, bent
from tests.reference import FAMILIES
from tests.samples import Judge, condition_from, tests_of
from tests.test_orders import ODD, any_order, some_records

BEGINS, ENDS = Order.by(TIMES, "begin"), Order.by(TIMES, "end")
NESTED = Order.by(TIMES, "begin", "-end")
LATE = ("less", 2000, ("a", "begin"))
PRICE = Order.by(SHOP, "price")


class Case(helpers.Case):
    def assert_is(self, draft, order, many):
        """Checks a draft's order and how many changes can be taken back."""
        self.assertIs(type(draft), Draft)
        self.assertEqual(draft.order, order)
        self.assertEqual(draft.order.key, order.key)
        self.assertEqual(len(draft), many)


class Changes(Case):
    def test_the_order_that_is_passed(self):
        draft = Draft(order=BEGINS)
        self.assertIs(draft.order, BEGINS)
        self.assertEqual(len(draft), 0)

    def test_another_order(self):
        draft = Draft(BEGINS)
        draft.order = ENDS
        self.assert_is(draft, ENDS, 1)
        self.assertIsNone(draft.set_order(order=NESTED))
        self.assert_is(draft, NESTED, 2)
        # The same order again is a change, too.
        draft.order = draft.order
        draft.set_order(Order.by(Family(TIMES.fields[::-1], *TIMES.kinds), "begin", "-end"))
        self.assert_is(draft, NESTED, 4)

    def test_operators(self):
        draft = Draft(BEGINS)
        held = draft
        draft += "-end"
        self.assert_is(draft, NESTED, 1)
        draft += ENDS
        self.assert_is(draft, NESTED, 2)
        draft &= Order.by(TIMES, "begin", "end")
        self.assert_is(draft, BEGINS, 3)
        draft |= Order.by(TIMES, "begin", "end")
        self.assert_is(draft, BEGINS + "end", 4)
        draft += BEGINS
        self.assert_is(draft, BEGINS + "end", 5)
        self.assertIs(held, draft)
        self.assertEqual((BEGINS.key, NESTED.key), (Order.by(TIMES, "begin").key, Order.by(TIMES, "begin", "-end").key))

    def test_changed_on_a_condition(self):
        draft = Draft(BEGINS)
        draft[LATE] = NESTED
        self.assert_is(draft, BEGINS.changed(LATE, NESTED), 1)
        self.assertIsNone(draft.change(condition=("not", LATE), other=NESTED))
        self.assert_is(draft, BEGINS.changed(LATE, NESTED).changed(("not", LATE), NESTED), 2)
        self.assertEqual(draft[LATE], draft.order[LATE])
        self.assertEqual(Draft(BEGINS)[("and",)], BEGINS)
        self.assertEqual(len(draft), 2)

    def test_any_changes_beside_orders(self):
        choice = random.Random(81)
        for _ in range(60):
            family = choice.choice(FAMILIES)
            order = any_order(choice, family, (0,))
            draft, orders = Draft(order), [order]
            for _ in range(choice.randint(1, 8)):
                other = any_order(choice, family, (0,), 2)
                condition = condition_from(choice, tests_of(family, "a", (0,)), 1)
                self.act(choice.choice(("+", "&", "|", "[]", "change", "=", "set", "undo")), draft, orders, other, condition)
                self.assertEqual(draft.order, orders[-1])
                self.assertEqual(len(draft), len(orders) - 1)
                for r in some_records(family, (0,), 2):
                    for s in some_records(family, (0,), 2):
                        self.assertEqual(draft.order(r, s), orders[-1](r, s))
            while len(orders) > 1:
                self.assertIsNone(draft.undo())
                orders.pop()
                self.assert_is(draft, orders[-1], len(orders) - 1)
            self.assert_raises(NothingThere, draft.undo)

    def act(self, word, draft, orders, other, condition):
        """Changes a draft, and a list of its orders likewise; what is refused changes nothing."""
        order = orders[-1]
        try:
            match word:
                case "+":
                    draft += other
                    orders.append(order + other)
                case "&":
                    draft &= other
                    orders.append(order & other)
                case "|":
                    draft |= other
                    orders.append(order | other)
                case "[]":
                    draft[condition] = other
                    orders.append(order.changed(condition, other))
                case "change":
                    draft.change(condition, other)
                    orders.append(order.changed(condition, other))
                case "=":
                    draft.order = other
                    orders.append(other)
                case "set":
                    draft.set_order(other)
                    orders.append(other)
                case "undo":
                    if len(orders) > 1:
                        orders.pop()
                        draft.undo()
                    else:
                        self.assert_raises(NothingThere, draft.undo)
        except (Opposite, NotOrder, TooMany):
            self.assertIs(draft.order, draft.order)


class Refused(Case):
    def refused(self, error, change, **attributes):
        draft = Draft(PRICE)
        draft += "pages"
        order = draft.order
        found = self.assert_raises(error, lambda: change(draft), **attributes)
        self.assertIs(draft.order, order)
        self.assertEqual(len(draft), 1)
        return found

    def added(self, thing):
        def change(draft):
            draft += thing

        return change

    def test_other_families(self):
        def joined(draft):
            draft &= BEGINS

        def both(draft):
            draft |= BEGINS

        def put(draft):
            draft.order = BEGINS

        def changed(draft):
            draft[None] = BEGINS

        for change in (self.added(BEGINS), joined, both, put, changed, lambda draft: draft.set_order(BEGINS),
                       lambda draft: draft.change(("and",), BEGINS)):
            self.refused(OtherFamily, change)

    def test_values_that_are_no_orders(self):
        for thing in (*ODD, PRICE.key, SHOP, Draft(PRICE)):
            def put(draft, thing=thing):
                draft.order = thing

            self.refused(OtherFamily, put)
            self.refused(OtherFamily, lambda draft, thing=thing: draft.set_order(order=thing))
            self.refused(OtherFamily, lambda draft, thing=thing: draft.change(("and",), thing))

    def test_names_that_are_no_fields(self):
        for name in ("prices", "-", "--price", "", "begin"):
            self.refused(NoField, self.added(name), field=name)

    def test_conditions(self):
        known = Judge(SHOP, "a")
        for thing in bent(("not", under(0, "price"))):
            if known.is_condition(thing):
                continue

            def put(draft, thing=thing):
                draft[thing] = PRICE

            self.assertIs(self.refused(BadCondition, put).thing, thing)
            self.assertIs(self.refused(BadCondition, lambda draft, thing=thing: draft[thing]).thing, thing)
            self.refused(BadCondition, lambda draft, thing=thing: draft.change(thing, PRICE), thing=thing)

    def test_what_is_no_order(self):
        def both(draft):
            draft |= -PRICE

        def changed(draft):
            draft[("is", "a", "pen")] = -PRICE

        error = self.refused(Opposite, both)
        self.assertEqual([PRICE(error.one, error.other), (-PRICE)(error.one, error.other)], ["less", "greater"])
        error = self.refused(NotOrder, changed)
        self.assertIs(type(error.__cause__), Broken)

    def test_too_many_cells(self):
        family = Family((("x", "m"), ("y", "m"), ("z", "m"), ("w", "n")), ("k", (), ("w", "x", "y", "z")))
        draft = Draft(Order.by(family, "x", "y", "z"))
        steps = Order(family, first(under(0, "w"), first(under(1000, "w"), first(under(2000, "w"), first(under(3000, "w"))))))

        def added():
            nonlocal draft
            draft += steps

        def joined():
            nonlocal draft
            draft &= steps

        for call in (added, joined, lambda: draft.change(("and",), steps), lambda: draft[("or", *[under(at * 1000, "w") for at in range(4)])]):
            self.assert_raises(TooMany, call, cells=9 * 13)
        self.assert_is(draft, Order.by(family, "x", "y", "z"), 0)

    def test_it_is_not_iterated_over(self):
        draft = Draft(PRICE)
        self.assertRaises(TypeError, lambda: list(draft))
        self.assertRaises(TypeError, lambda: ("and",) in draft)


class Undone(Case):
    def test_one_by_one(self):
        draft, orders = Draft(BEGINS), [BEGINS]
        for order in (ENDS, ENDS, NESTED, BEGINS):
            draft.order = order
            orders.append(order)
        for many in (4, 3, 2, 1):
            self.assert_is(draft, orders[many], many)
            self.assertIsNone(draft.undo())
        self.assert_is(draft, BEGINS, 0)
        self.assert_raises(NothingThere, draft.undo)
        self.assert_raises(NothingThere, draft.undo)
        self.assert_is(draft, BEGINS, 0)

    def test_changes_behind_undo(self):
        draft = Draft(BEGINS)
        draft += "end"
        draft.undo()
        draft.order = ENDS
        draft += "begin"
        draft.undo()
        self.assert_is(draft, ENDS, 1)
        draft.undo()
        self.assert_is(draft, BEGINS, 0)

    def test_two_hundred_changes(self):
        draft = Draft(BEGINS)
        for at in range(200):
            draft.order = (ENDS, NESTED)[at % 2]
        self.assert_is(draft, NESTED, 200)
        for _ in range(200):
            draft.undo()
        self.assert_is(draft, BEGINS, 0)


class Tried(Case):
    def test_a_block(self):
        draft = Draft(BEGINS)
        draft += "end"
        order = draft.order
        with draft.trying():
            draft &= NESTED
            self.assert_is(draft, BEGINS, 2)
            draft.order = ENDS
        self.assert_is(draft, order, 1)
        self.assertIs(draft.order, order)
        with draft.trying():
            draft.undo()
            draft.order = NESTED
            draft.undo()
            self.assert_is(draft, BEGINS, 0)
            self.assert_raises(NothingThere, draft.undo)
        self.assert_is(draft, order, 1)
        draft.undo()
        self.assert_is(draft, BEGINS, 0)

    def test_whatever_is_raised(self):
        draft = Draft(PRICE)
        draft += "pages"
        order = draft.order
        for error, change in (
            (KeyError, lambda: {}["x"]),
            (NothingThere, lambda: [draft.undo(), draft.undo(), draft.undo()]),
            (OtherFamily, lambda: draft.set_order(BEGINS)),
            (BadCondition, lambda: draft.change(None, PRICE)),
            (KeyboardInterrupt, self.stopped),
        ):
            with self.assertRaises(error):
                with draft.trying():
                    draft.order = -PRICE
                    change()
            self.assertIs(draft.order, order)
            self.assertEqual(len(draft), 1)

    def stopped(self):
        raise KeyboardInterrupt

    def test_used_again(self):
        draft = Draft(BEGINS)
        trying = draft.trying()
        for order in (ENDS, NESTED):
            with trying:
                draft.order = order
                self.assert_is(draft, order, 1)
            self.assert_is(draft, BEGINS, 0)
        draft.order = ENDS
        # What counts is how the draft is when the block begins.
        with trying:
            draft.undo()
        self.assert_is(draft, ENDS, 1)

    def test_within_its_own_block(self):
        draft = Draft(BEGINS)
        trying = draft.trying()
        with trying:
            draft.order = ENDS
            with trying:
                draft.order = NESTED
                with self.assertRaises(ValueError):
                    with trying:
                        draft.undo()
                        draft.undo()
                        self.assert_is(draft, BEGINS, 0)
                        raise ValueError
                self.assert_is(draft, NESTED, 2)
                with draft.trying():
                    draft.undo()
                self.assert_is(draft, NESTED, 2)
            self.assert_is(draft, ENDS, 1)
        self.assert_is(draft, BEGINS, 0)
        with trying:
            draft.order = ENDS
        self.assert_is(draft, BEGINS, 0)

    def test_left_early(self):
        draft = Draft(BEGINS)

        def tried():
            for order in (ENDS, NESTED):
                with draft.trying():
                    draft.order = order
                    if order == ENDS:
                        continue
                    return draft.order

        self.assertEqual(tried(), NESTED)
        self.assert_is(draft, BEGINS, 0)

    def test_functions(self):
        draft = Draft(BEGINS)
        draft.order = ENDS
        seen = []

        def action(passed):
            seen.append(passed)
            passed += "begin"
            passed.undo()
            passed.undo()
            passed.order = NESTED
            return passed.order, len(passed)

        self.assertEqual(draft.tried(action=action), (NESTED, 1))
        self.assertEqual(len(seen), 1)
        self.assertIs(seen[0], draft)
        self.assert_is(draft, ENDS, 1)
        for error in (ValueError, OtherFamily, KeyError):
            def failing(passed, error=error):
                passed.order = NESTED
                raise error()

            self.assert_raises(error, lambda: draft.tried(failing))
            self.assert_is(draft, ENDS, 1)
        self.assertIsNone(draft.tried(lambda passed: None))
        self.assertEqual(draft.tried(lambda passed: passed.tried(lambda inner: len(inner))), 1)

    def test_two_drafts(self):
        one, other = Draft(BEGINS), Draft(BEGINS)
        with one.trying():
            one.order = ENDS
            other.order = ENDS
        self.assert_is(one, BEGINS, 0)
        self.assert_is(other, ENDS, 1)
        self.assertFalse(one == other.order)


class Between(Case):
    def test_a_draft_answers_as_its_order(self):
        for family, comparison in ORDERS[::3]:
            draft = Draft(Order(family, comparison))
            draft += Order.by(family, *[field for field, _ in family.fields][:1])
            draft.order = -draft.order
            draft.undo()
            word = reference.worded(family, comparison)
            for r in some_records(family, (0, 1000), 3):
                for s in some_records(family, (0, 1000), 3):
                    if word(r, s) != "alike":
                        self.assertEqual(draft.order(r, s), word(r, s))
        self.assertEqual(Draft(Order(SHOP, by("price"))).order, PRICE)


if __name__ == "__main__":
    unittest.main()
