"""Cells: all of them, the cell of a record, and a record of a cell."""

import unittest
from itertools import product

from keybehind.cells import cell_of, cells_of, record_of
from keybehind.errors import TooMany
from keybehind.families import Family
from tests.helpers import SHOP, TIMES
from tests.reference import cell

SPAN = (("span", "begin"), ("span", "end"))
PENS = (("pen", "cost"), ("pen", "price"))
MIXED = Family((("u", "m"), ("v", "m"), ("w", "m"), ("x", "n")), ("low", (), ("v", "x")), ("all", ("low",), ("u", "w")),
               ("bare", (), ()))
CASES = (
    (SHOP, (), ()), (SHOP, (), (("money", 0), ("size", 1000))), (SHOP, PENS, ()), (SHOP, PENS, (("money", -1000),)),
    (SHOP, PENS, (("money", 0), ("money", 1000), ("size", 0))), (SHOP, (("book", "pages"), ("ware", "price")), (("size", 0),)),
    (SHOP, (("book", "pages"), ("book", "price"), ("ware", "price")), (("money", 2000), ("size", -1000), ("size", 0))),
    (TIMES, SPAN, ()), (TIMES, SPAN[1:], (("time", 0), ("time", 3000))), (TIMES, SPAN, (("time", 0), ("time", 1000))),
    (MIXED, (("all", "u"), ("all", "v"), ("all", "w")), ()), (MIXED, (("all", "u"), ("all", "w"), ("low", "v")), (("m", 0),)),
    (MIXED, (("all", "u"), ("all", "v"), ("all", "w"), ("all", "x")), (("n", -1000), ("n", 1000))),
    (MIXED, (("all", "u"), ("all", "v"), ("all", "w")), (("m", 5000),)),
)


def records_around(family, limits):
    """Records whose values lie on the limits, and in every order between, below and above them."""
    for kind in family.names:
        choices = []
        for field in family.fields_of(kind):
            near = [limit for measure, limit in limits if measure == family.measure_of(field)] or [0]
            choices.append(sorted({value + step for value in near for step in (-3, -2, -1, 0, 1, 2, 3)}))
        for values in product(*choices):
            yield kind, values


class AllCells(unittest.TestCase):
    def test_all_of_them_ascending_and_each_once(self):
        for family, reads, limits in CASES:
            found = {cell(family, reads, limits, record) for record in records_around(family, limits)}
            if len(found) > 100:
                with self.assertRaises(TooMany) as caught:
                    cells_of(family, reads, limits)
                self.assertEqual(caught.exception.cells, len(found))
            else:
                self.assertEqual(cells_of(family, reads, limits), tuple(sorted(found)))

    def test_numbers(self):
        self.assertEqual(len(cells_of(TIMES, SPAN, (("time", 2000), ("time", 3000)))), 31)
        self.assertEqual(len(cells_of(family=TIMES, reads=SPAN[:1], limits=(("time", 0),))), 3)
        self.assertEqual(cells_of(Family(()), (), ()), ())
        fields = tuple((name, "m") for name in "abcdefghijkl")
        for many, due in enumerate((1, 1, 3, 13, 75, 541, 4683, 47293, 545835, 7087261)):
            family = Family(fields, ("x", (), tuple("abcdefghijkl")))
            reads = tuple(("x", name) for name in "abcdefghijkl"[:many])
            if due <= 100:
                self.assertEqual(len(set(cells_of(family, reads, ()))), due)
            else:
                self.assert_too_many(due, family, reads, ())

    def assert_too_many(self, due, *arguments):
        with self.assertRaises(TooMany) as caught:
            cells_of(*arguments)
        self.assertEqual(caught.exception.cells, due)
        self.assertIs(type(caught.exception.cells), int)

    def test_a_hundred_are_not_too_many(self):
        limits = tuple(("time", at * 1000) for at in range(-20, 29))
        once = Family(TIMES.fields, ("span", (), ("begin",)), ("bare", (), ()))
        twice = Family(TIMES.fields, ("span", (), ("begin",)), ("bare", (), ()), ("more", (), ("end",)))
        self.assertEqual(len(cells_of(once, SPAN[:1], limits)), 100)
        self.assert_too_many(101, twice, SPAN[:1], limits)
        self.assert_too_many(102, once, SPAN[:1], (*limits, ("time", 29000)))

    def test_the_number_however_great(self):
        fields = tuple((a + b, a) for a in "mno" for b in "xyz")
        family = Family(fields, *[(name, (), tuple(field for field, _ in fields)) for name in "pqr"])
        reads = tuple((name, field) for name in "pqr" for field, _ in fields)
        self.assert_too_many(3 * 13 ** 3, family, reads, ())
        limits = tuple((measure, at * 1000) for measure in "mno" for at in range(10))
        # Beside n groups, one more field joins one of them, or lies in one of n + 1 gaps and makes a group of its own.
        ways = 10 * (10 * 21 + 11 * 23) + 11 * (11 * 23 + 12 * 25)
        self.assert_too_many(3 * ways ** 3, family, reads, limits)
        self.assert_too_many(2 * 10 ** 4 + 3, SHOP, (("ware", "price"),), tuple(("money", at * 1000) for at in range(10 ** 4)))

    def test_kinds_without_read_fields(self):
        self.assertEqual(cells_of(SHOP, (), (("money", 0),)), (("book", ()), ("pen", ()), ("ware", ())))
        found = cells_of(SHOP, (("pen", "price"),), (("money", 0),))
        self.assertEqual([one for one in found if one[0] != "pen"], [("book", ()), ("ware", ())])
        self.assertEqual(len(found), 5)

    def test_limits_of_measures_that_are_not_read(self):
        limits = (("money", 0), ("size", 0), ("size", 1000))
        self.assertEqual(cells_of(SHOP, PENS, limits), cells_of(SHOP, PENS, limits[:1]))
        self.assertEqual(cells_of(SHOP, PENS[:1], limits)[1],
                         ("pen", (("money", (((), ("cost",)), ((0,), ()))),)))

    def test_values_are_tuples(self):
        def assert_plain(thing):
            if isinstance(thing, tuple):
                for part in thing:
                    assert_plain(part)
            else:
                self.assertIn(type(thing), (int, str))

        assert_plain(cells_of(SHOP, PENS, (("money", 0),)))
        assert_plain(cell_of(SHOP, PENS, (("money", 0),), ("pen", (1, 0))))
        assert_plain(record_of(SHOP, PENS, (), cells_of(SHOP, PENS, ())[1]))


class OneCell(unittest.TestCase):
    def test_groups(self):
        limits = (("money", -1000), ("money", 700), ("size", 0))
        self.assertEqual(cell_of(SHOP, PENS, limits[:1], ("pen", (700, 700))),
                         ("pen", (("money", (((-1000,), ()), ((), ("cost", "price")))),)))
        self.assertEqual(cell_of(SHOP, PENS, (("money", 0), ("money", 1000)), ("pen", (1000, -5))),
                         ("pen", (("money", (((), ("price",)), ((0,), ()), ((1000,), ("cost",)))),)))
        self.assertEqual(cell_of(record=("book", (0, 0)), limits=(("size", 0),), family=SHOP,
                                 reads=(("book", "pages"), ("book", "price"))),
                         ("book", (("money", (((), ("price",)),)), ("size", (((0,), ("pages",)),)))))
        self.assertEqual(cell_of(SHOP, PENS, (), ("ware", (3,))), ("ware", ()))

    def test_every_record(self):
        for family, reads, limits in CASES:
            for record in records_around(family, limits):
                self.assertEqual(cell_of(family, reads, limits, record), cell(family, reads, limits, record))

    def test_more_cells_than_a_hundred(self):
        limits = tuple(("time", at * 1000) for at in range(200))
        found = cell_of(TIMES, SPAN, limits, ("span", (100500, 100500)))
        self.assertEqual(found[1][0][1][101], ((), ("begin", "end")))
        self.assertEqual(cell_of(TIMES, SPAN, limits, record_of(TIMES, SPAN, limits, found)), found)


class OneRecord(unittest.TestCase):
    def test_every_cell(self):
        for family, reads, limits in CASES:
            for due in {cell(family, reads, limits, record) for record in records_around(family, limits)}:
                record = record_of(family, reads, limits, due)
                self.assertIs(family.is_record(record), True)
                self.assertEqual(cell(family, reads, limits, record), due)
                self.assertEqual(cell_of(family, reads, limits, record), due)

    def test_between_limits_a_thousand_apart(self):
        reads = (("all", "u"), ("all", "v"), ("all", "w"))
        for low in (-10 ** 12, -1000, 0, 999000):
            limits = (("m", low), ("m", low + 1000))
            for fields in ((("u",), ("v",), ("w",)), (("w",), ("u",), ("v",)), (("v",), ("u", "w")), (("u", "v", "w"),)):
                groups = (((low,), ()), *[((), group) for group in fields], ((low + 1000,), ()))
                kind, (u, v, w, _) = record_of(MIXED, reads, limits, ("all", (("m", groups),)))
                self.assertEqual(kind, "all")
                heights = [{"u": u, "v": v, "w": w}[group[0]] for group in fields]
                self.assertEqual(heights, sorted(set(heights)))
                self.assertTrue(low < min(u, v, w) and max(u, v, w) < low + 1000)

    def test_below_and_above_all_limits(self):
        limits = (("time", 0), ("time", 1000))
        for due in (("span", (("time", (((), ("end",)), ((), ("begin",)), ((0,), ()), ((1000,), ()))),)),
                    ("span", (("time", (((0,), ()), ((1000,), ()), ((), ("end",)), ((), ("begin",)))),)),
                    ("span", (("time", (((), ("end",)), ((0,), ()), ((1000,), ()), ((), ("begin",)))),))):
            self.assertEqual(cell(TIMES, SPAN, limits, record_of(TIMES, SPAN, limits, due)), due)

    def test_fields_that_are_not_read(self):
        self.assertIs(SHOP.is_record(record_of(SHOP, (), (), ("pen", ()))), True)
        self.assertIs(MIXED.is_record(record_of(MIXED, (), (), ("bare", ()))), True)
        self.assertEqual(record_of(cell=("bare", ()), limits=(), reads=(), family=MIXED), ("bare", ()))


if __name__ == "__main__":
    unittest.main()
