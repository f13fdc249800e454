"""Conventions: what is passed is not changed, results are plain, and names of arguments are as they are listed."""

import copy
import inspect
import unittest

from keybehind import cells, conditions, families
from keybehind.errors import OrderError
from keybehind.families import Family
from tests.helpers import SHOP

PARAMETERS = {
    (cells, "cells_of"): "(family, reads, limits)",
    (cells, "cell_of"): "(family, reads, limits, record)",
    (cells, "record_of"): "(family, reads, limits, cell)",
    (conditions, "is_condition"): "(family, thing, *, both=False)",
    (conditions, "is_comparison"): "(family, thing)",
    (conditions, "holds"): "(family, condition, record)",
    (conditions, "says"): "(family, comparison, one, other)",
    (conditions, "written"): "(thing)",
    (conditions, "read_condition"): "(family, text, *, both=False)",
    (conditions, "read_comparison"): "(family, text)",
    (families, "Family"): "(fields, *kinds)",
    (Family, "line"): "(self, kind)",
    (Family, "fields_of"): "(self, kind)",
    (Family, "measure_of"): "(self, field)",
    (Family, "is_heir"): "(self, kind, other)",
    (Family, "record"): "(self, kind, **values)",
    (Family, "is_record"): "(self, thing)",
    (Family, "value"): "(self, record, field)",
    (Family, "read"): "(text)",
}
NESTED = ("and", ["or", {"less": [("a", "price"), [0]]}], {"is": ["a", {"pen": []}]}, [], {})


class Conventions(unittest.TestCase):
    def test_parameters(self):
        for (place, name), due in PARAMETERS.items():
            self.assertIn(name, vars(place))
            self.assertEqual(str(inspect.signature(getattr(place, name))), due)
            if not isinstance(place, type):
                self.assertEqual(getattr(place, name).__module__, place.__name__)

    def test_what_is_passed_is_not_changed(self):
        given = copy.deepcopy(NESTED)
        for call in (lambda: Family(given, given), lambda: Family((), given), lambda: SHOP.line(given),
                     lambda: SHOP.measure_of(given), lambda: SHOP.record("ware", price=given), lambda: SHOP.is_record(given),
                     lambda: SHOP.value(given, given), lambda: Family.read(given), lambda: SHOP == given,
                     lambda: SHOP.is_heir("pen", given), lambda: SHOP.fields_of(given),
                     lambda: conditions.is_condition(SHOP, given), lambda: conditions.is_comparison(SHOP, given),
                     lambda: conditions.holds(SHOP, given, given), lambda: conditions.holds(SHOP, ("and",), given),
                     lambda: conditions.says(SHOP, given, given, given), lambda: conditions.says(SHOP, "less", given, given),
                     lambda: conditions.read_condition(SHOP, given), lambda: conditions.read_comparison(SHOP, given)):
            try:
                self.assertIs(call(), False)
            except OrderError:
                pass
            self.assertEqual(given, NESTED)

    def test_attributes_are_set_at_once(self):
        family = Family((("price", "money"),), ("ware", (), ("price",)))
        self.assertEqual([family.fields, family.kinds, family.names, family.measures, family.text],
                         [(("price", "money"),), (("ware", (), ("price",)),), ("ware",), ("money",),
                          "field price money\nkind ware : ; price"])
        for name in ("fields", "kinds", "names", "measures", "text"):
            self.assertIn(name, vars(family))

    def test_results_are_tuples(self):
        for thing in (SHOP.fields, SHOP.kinds, SHOP.names, SHOP.measures, SHOP.line("pen"), SHOP.fields_of("pen"),
                      SHOP.record("ware", price=1), SHOP.record("ware", price=1)[1], cells.cells_of(SHOP, (), ()),
                      conditions.read_condition(SHOP, "(never and always)")):
            self.assertIs(type(thing), tuple)


if __name__ == "__main__":
    unittest.main()
