"""Conventions: what is passed is not changed, results are plain, and names of arguments are as they are listed."""

import copy
import inspect
import unittest

from keybehind import cells, conditions, drafts, families, findings, judging, keys, operators, orders, runs, shelves
from keybehind.drafts import Draft
from keybehind.errors import OrderError
from keybehind.families import Family
from keybehind.operators import Operators
from keybehind.orders import Order
from keybehind.shelves import Shelf
from tests.helpers import SHOP

PARAMETERS = {
    (cells, "cells_of"): "(family, reads, limits)",
    (cells, "cell_of"): "(family, reads, limits, record)",
    (cells, "record_of"): "(family, reads, limits, cell)",
    (conditions, "is_condition"): "(family, thing, *, both=False)",
    (conditions, "is_comparison"): "(family, thing)",
    (conditions, "holds"): "(family, condition, record)",
    (conditions, "says"): "(family, comparison, one, other)",
    (conditions, "written"): "(thing)",
    (conditions, "read_condition"): "(family, text, *, both=False)",
    (conditions, "read_comparison"): "(family, text)",
    (families, "Family"): "(fields, *kinds)",
    (Family, "line"): "(self, kind)",
    (Family, "fields_of"): "(self, kind)",
    (Family, "measure_of"): "(self, field)",
    (Family, "is_heir"): "(self, kind, other)",
    (Family, "record"): "(self, kind, **values)",
    (Family, "is_record"): "(self, thing)",
    (Family, "value"): "(self, record, field)",
    (Family, "read"): "(text)",
    (keys, "is_key"): "(family, thing)",
    (keys, "is_plain"): "(family, thing)",
    (keys, "is_normal"): "(family, thing)",
    (keys, "key_says"): "(family, key, one, other)",
    (keys, "normal"): "(family, key)",
    (keys, "plain"): "(family, key, reads, limits)",
    (keys, "parting"): "(family, key, other)",
    (judging, "judge"): "(family, comparison)",
    (judging, "broken_holds"): "(family, comparison, thing)",
    (judging, "key_holds"): "(family, comparison, thing)",
    (orders, "Order"): "(family, comparison)",
    (Order, "of"): "(family, key)",
    (Order, "by"): "(family, *fields)",
    (Order, "by_kinds"): "(family, *kinds)",
    (Order, "__call__"): "(self, one, other)",
    (Order, "place"): "(self, record)",
    (Order, "row"): "(self, *records)",
    (Order, "unlike"): "(self, other)",
    (Order, "beside"): "(self, other)",
    (Order, "changed"): "(self, condition, other)",
    (runs, "runs"): "(order, condition)",
    (runs, "row_with"): "(order, condition, many)",
    (runs, "obstacle"): "(order, wish, condition)",
    (operators, "Operators"): "(family, *entries)",
    (Operators, "ask"): "(self, sign, one, other)",
    (Operators, "asked"): "(self, sign, one, other)",
    (Operators, "refused"): "(self, sign)",
    (Operators, "by_less"): "(self)",
    (Operators, "otherwise"): "(self, sign, order)",
    (drafts, "Draft"): "(order)",
    (Draft, "set_order"): "(self, order)",
    (Draft, "change"): "(self, condition, other)",
    (Draft, "undo"): "(self)",
    (Draft, "trying"): "(self)",
    (Draft, "tried"): "(self, action)",
    (shelves, "Shelf"): "(order, *records)",
    (Shelf, "set_order"): "(self, order)",
    (Shelf, "put"): "(self, *records)",
    (Shelf, "take"): "(self, record)",
    (Shelf, "span"): "(self, record)",
    (Shelf, "merged"): "(self, other)",
    (findings, "finding_holds"): "(thing)",
}
NESTED = ("and", ["or", {"less": [("a", "price"), [0]]}], {"is": ["a", {"pen": []}]}, [], {})

PRICES = Order.by(SHOP, "price", "-cost")
CLASSES = Operators(SHOP, ("ware", "<", ("if", ("less", ("a", "price"), ("b", "price")), "yes", "no")))


class Conventions(unittest.TestCase):
    def test_parameters(self):
        for (place, name), due in PARAMETERS.items():
            self.assertIn(name, vars(place))
            self.assertEqual(str(inspect.signature(getattr(place, name))), due)
            if not isinstance(place, type):
                self.assertEqual(getattr(place, name).__module__, place.__name__)

    def test_what_is_passed_is_not_changed(self):
        given = copy.deepcopy(NESTED)
        for call in (lambda: Family(given, given), lambda: Family((), given), lambda: SHOP.line(given),
                     lambda: SHOP.measure_of(given), lambda: SHOP.record("ware", price=given), lambda: SHOP.is_record(given),
                     lambda: SHOP.value(given, given), lambda: Family.read(given), lambda: SHOP == given,
                     lambda: SHOP.is_heir("pen", given), lambda: SHOP.fields_of(given),
                     lambda: conditions.is_condition(SHOP, given), lambda: conditions.is_comparison(SHOP, given),
                     lambda: conditions.holds(SHOP, given, given), lambda: conditions.holds(SHOP, ("and",), given),
                     lambda: conditions.says(SHOP, given, given, given), lambda: conditions.says(SHOP, "less", given, given),
                     lambda: conditions.read_condition(SHOP, given), lambda: conditions.read_comparison(SHOP, given),
                     lambda: judging.judge(SHOP, given), lambda: judging.broken_holds(SHOP, "less", given),
                     lambda: judging.key_holds(SHOP, "less", given), lambda: keys.is_key(SHOP, given), lambda: keys.is_plain(SHOP, given),
                     lambda: keys.is_normal(SHOP, ((), (), given)), lambda: Order(SHOP, given), lambda: Order.of(SHOP, given),
                     lambda: Order.by(SHOP, "price", given), lambda: Order.by_kinds(SHOP, given), lambda: PRICES(given, given),
                     lambda: PRICES.row(given), lambda: PRICES == given, lambda: PRICES[given], lambda: PRICES.changed(given, PRICES),
                     lambda: runs.runs(PRICES, given), lambda: runs.row_with(PRICES, given, 1), lambda: runs.obstacle(PRICES, PRICES, given),
                     lambda: Operators(SHOP, given), lambda: Operators(SHOP, ("pen", "<", given)), lambda: CLASSES.ask(given, given, given),
                     lambda: CLASSES.asked("<", given, given), lambda: CLASSES.refused(given), lambda: CLASSES.otherwise(given, given),
                     lambda: CLASSES.otherwise("<", given), lambda: Draft(PRICES).set_order(given), lambda: Draft(PRICES)[given],
                     lambda: Draft(PRICES).change(given, PRICES), lambda: Shelf(PRICES, given), lambda: Shelf(PRICES).put(given),
                     lambda: Shelf(PRICES).take(given), lambda: given in Shelf(PRICES), lambda: Shelf(PRICES)[given],
                     lambda: Shelf(PRICES).span(given), lambda: Shelf(PRICES).merged(given), lambda: Shelf(PRICES).set_order(given),
                     lambda: findings.finding_holds(given), lambda: findings.finding_holds(("order", given, given, given)),
                     lambda: findings.finding_holds(("runs", PRICES, given, given, 1))):
            try:
                self.assertIs(call(), False)
            except OrderError:
                pass
            self.assertEqual(given, NESTED)

    def test_attributes_are_set_at_once(self):
        family = Family((("price", "money"),), ("ware", (), ("price",)))
        self.assertEqual([family.fields, family.kinds, family.names, family.measures, family.text],
                         [(("price", "money"),), (("ware", (), ("price",)),), ("ware",), ("money",),
                          "field price money\nkind ware : ; price"])
        for name in ("fields", "kinds", "names", "measures", "text"):
            self.assertIn(name, vars(family))
        for order in (PRICES, -PRICES, PRICES + "pages", Order(SHOP, "alike"), Order.of(SHOP, PRICES.key), PRICES[("and",)]):
            self.assertEqual([order.family, order.reads, order.limits], [SHOP, *order.key[:2]])
            for name in ("family", "key", "reads", "limits"):
                self.assertIn(name, vars(order))
        for name in ("family", "entries"):
            self.assertIn(name, vars(CLASSES))

    def test_results_are_tuples(self):
        for thing in (SHOP.fields, SHOP.kinds, SHOP.names, SHOP.measures, SHOP.line("pen"), SHOP.fields_of("pen"),
                      SHOP.record("ware", price=1), SHOP.record("ware", price=1)[1], cells.cells_of(SHOP, (), ()),
                      conditions.read_condition(SHOP, "(never and always)"), PRICES.key, PRICES.reads, PRICES.limits, *PRICES.key[2],
                      PRICES.place(("pen", (1, 2))), PRICES.row(), judging.judge(SHOP, "less"), judging.judge(SHOP, "less")[1],
                      judging.judge(SHOP, "alike"), keys.normal(SHOP, PRICES.key), keys.plain(SHOP, PRICES.key, (), ()),
                      keys.parting(SHOP, PRICES.key, (-PRICES).key), PRICES.unlike(-PRICES), PRICES.beside(-PRICES),
                      runs.row_with(PRICES, ("and",), 1), runs.obstacle(PRICES, -PRICES, ("and",)), CLASSES.entries,
                      CLASSES.asked("<", ("ware", (1,)), ("ware", (2,))), CLASSES.refused("<="), CLASSES.otherwise("<", -PRICES),
                      Shelf(PRICES).rows, Shelf(PRICES)[("and",)], Shelf(PRICES).span(("ware", (1,)))):
            self.assertIs(type(thing), tuple)

    def test_methods_that_return_nothing(self):
        draft, shelf = Draft(PRICES), Shelf(PRICES, ("ware", (1,)))
        for found in (draft.set_order(-PRICES), draft.change(("and",), PRICES), draft.undo(), shelf.put(("ware", (2,))),
                      shelf.take(("ware", (1,))), shelf.set_order(-PRICES)):
            self.assertIsNone(found)

    def test_no_object_is_equal_to_another_value(self):
        things = (SHOP, PRICES, CLASSES, Draft(PRICES), Draft(PRICES).trying(), Shelf(PRICES))
        for thing in things:
            for other in (None, True, False, 0, 1, "", "price", (), [], {}, PRICES.key, SHOP.kinds, SHOP.text, (thing,), [thing], NESTED):
                self.assertIs(thing == other, False)
                self.assertIs(other == thing, False)
                self.assertIs(thing != other, True)
        for one in things:
            self.assertEqual([one == other for other in things].count(True), 1)

    def test_results_are_of_plain_values_alone(self):
        def assert_plain(thing):
            if isinstance(thing, tuple):
                for part in thing:
                    assert_plain(part)
            else:
                self.assertIn(type(thing), (int, str))

        begin = Family((("begin", "time"),), ("span", (), ("begin",)))
        late = ("less", 2000, ("a", "begin"))
        order = Order(begin, ("if", late, ("if", ("less", 2000, ("b", "begin")), "alike", "less"),
                              ("if", ("less", 2000, ("b", "begin")), "greater", "alike")))
        for thing in (PRICES.key, order.key, order.place(("span", (7,))), keys.plain(begin, order.key, (), (("time", 0),)),
                      judging.judge(SHOP, "less"), order.unlike(-order), runs.row_with(Order.by(begin, "begin"), late, 1),
                      runs.row_with(PRICES, ("is", "a", "pen"), 9)):
            assert_plain(thing)

    def test_methods_stand_in_the_class_itself(self):
        for name in ("__eq__", "__call__", "__add__", "__radd__", "__neg__", "__and__", "__or__", "__le__", "__lt__", "__ge__", "__gt__", "__getitem__"):
            self.assertIn(name, vars(Order))
        self.assertEqual(Order.__bases__, (object,))
        for name in ("__iadd__", "__iand__", "__ior__", "__getitem__", "__setitem__", "__len__", "__iter__", "order", "tried", "trying", "undo"):
            self.assertIn(name, vars(Draft))
        for name in ("__iadd__", "__getitem__", "__len__", "__contains__", "__iter__", "order", "rows", "put", "take", "span", "merged"):
            self.assertIn(name, vars(Shelf))
        for name in ("ask", "asked", "refused", "by_less", "otherwise"):
            self.assertIn(name, vars(Operators))
        for made in (Operators, Draft, Shelf):
            self.assertEqual(made.__bases__, (object,))


if __name__ == "__main__":
    unittest.main()
