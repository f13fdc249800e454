"""Judging: comparisons that are orders with their keys, broken ones with records that break them."""

import ast
import random
import unittest
from itertools import permutations, product

from keybehind.cells import cells_of
from keybehind.conditions import read_comparison
from keybehind.errors import BadComparison, TooMany
from keybehind.families import Family
from keybehind.judging import broken_holds, judge, key_holds
from keybehind.keys import is_normal, is_plain, plain
from keybehind.orders import Order
from tests import reference, samples
from tests.comparisons import (
    ABOVE,
    BELOW,
    BROKEN,
    MOST,
    ORDERS,
    WOVEN,
    apart,
    between,
    by,
    by_known,
    first,
    ordered_from,
    over,
    under,
    where,
)
from tests.far_breaks import FAR
from tests.helpers import SHOP, TIMES, WORDY, bent, deep
from tests.reference import BARE, MIXED, PAIRS, SHELVES, SINGLE, TRIPLE, UNEVEN, all_ways, is_order, key_word, table
from tests.samples import tests_of, tree_from


def limits_in(thing):
    if isinstance(thing, int):
        return {thing}
    return set().union(*map(limits_in, thing)) if isinstance(thing, tuple) else set()


class Judge(unittest.TestCase):
    def assert_right(self, family, comparison, most=800):
        """Checks the verdict beside all records that show all ways in which the values of three of them can lie."""
        word, found = judge(family, comparison)
        records = all_ways(family, sorted(limits_in(comparison)), 3)
        if len(records) > most:
            records = all_ways(family, sorted(limits_in(comparison)), 2)
        if len(records) > most:
            records = random.Random(1).sample(records, most // 4)
        words = table(family, comparison, records)
        if word == "broken":
            self.assertIs(type(found), tuple)
            self.assertTrue(1 <= len(found) <= 3 and all(family.is_record(record) for record in found))
            self.assertTrue(reference.breaks(family, comparison, found))
            self.assertIs(broken_holds(family, comparison, found), True)
            return word
        self.assertEqual(word, "key")
        self.assertTrue(is_order(words))
        for one, other in (
            product(range(len(records)), repeat=2)
            if len(records) < 60
            else random.Random(2).choices(list(product(range(len(records)), repeat=2)), k=800)
        ):
            self.assertEqual(words[one][other], key_word(family, found, records[one], records[other]))
        self.assertIs(is_normal(family, found), True)
        self.assertIs(key_holds(family, comparison, found), True)
        return word

    def test_orders(self):
        for family, comparison in ORDERS:
            self.assertEqual(self.assert_right(family, comparison), "key")

    def test_broken(self):
        for many, family, comparison in BROKEN:
            self.assertEqual(self.assert_right(family, comparison), "broken")
            found = judge(family, comparison)[1]
            # Never more records than it takes.
            self.assertEqual(len(found), many)

    def test_broken_far_from_what_is_asked_first(self):
        for family_text, text in FAR:
            family = Family.read(family_text)
            self.assertEqual(self.assert_right(family, read_comparison(family, text), 300), "broken")

    def test_all_that_can_be_broken_is_found(self):
        found = {"key": 0, "broken": 0}
        choice = random.Random(7)
        for family, deepest, limits, times in (
            (TIMES, 3, (), 60),
            (SINGLE, 3, (), 60),
            (SINGLE, 3, (0,), 60),
            (MIXED, 3, (), 60),
            (SHELVES, 3, (), 40),
            (SHOP, 3, (), 40),
            (PAIRS, 3, (), 60),
            (UNEVEN, 3, (), 40),
            (BARE, 3, (), 60),
        ):
            names = [field for field, _ in family.fields]
            for _ in range(times):
                comparison = ordered_from(
                    choice,
                    tests_of(family, "ab", limits),
                    tests_of(family, "a", limits),
                    names,
                    choice.randint(1, deepest),
                )
                word = self.assert_right(family, comparison, 120)
                records = all_ways(family, limits, 3)
                self.assertEqual(word == "key", is_order(table(family, comparison, records)), comparison)
                found[word] = found[word] + 1
        self.assertGreater(min(found.values()), 60)

    def test_comparisons_of_any_form(self):
        choice = random.Random(8)
        found = {"key": 0, "broken": 0}
        for family in (TIMES, SINGLE, BARE, MIXED):
            for _ in range(100):
                comparison = tree_from(choice, tests_of(family, "ab", ()), choice.randint(0, 4))
                word = judge(family, comparison)[0]
                self.assertEqual(
                    word == "key", is_order(table(family, comparison, all_ways(family, (), 3))), comparison
                )
                self.assert_right(family, comparison, 120)
                found[word] = found[word] + 1
        self.assertGreater(min(found.values()), 50)

    def test_all_ways_with_a_limit(self):
        for comparison in (
            where(under(0, "begin"), by("begin", "end"), by("end")),
            apart(under(0, "begin"), by("end"), by("-begin")),
            first(("and", under(0, "begin"), over(0, "end")), by("end")),
            ("if", ("less", 0, ("a", "begin")), by("begin"), by("-begin")),
        ):
            records = all_ways(TIMES, (0,), 3)
            self.assertEqual(judge(TIMES, comparison)[0] == "key", is_order(table(TIMES, comparison, records)))

    def test_keys(self):
        one = (("money", (((), ("price",)),)),)
        pens = (("book", one), ("gift", one), ("pen", one))
        key = (
            (("book", "price"), ("gift", "price"), ("pen", "price")),
            (),
            (("by", "up", tuple((due, "price") for due in pens), (("alike", pens),)),),
        )
        self.assertEqual(judge(SINGLE, by("price")), ("key", key))
        self.assertEqual(
            judge(comparison="alike", family=BARE),
            ("key", ((), (), (("alike", tuple((kind, ()) for kind in ("base", "both", "left", "right"))),))),
        )
        self.assertEqual(judge(Family(()), "less"), ("key", ((), (), ())))
        self.assertEqual(judge(SHOP, first(under(0, "price")))[1][1], (("money", 0),))
        groups = ((((), ("price",)), ((0,), ())), (((0,), ()), ((), ("price",))), (((0,), ("price",)),))
        below, above, on = [("ware", (("money", lying),)) for lying in groups]
        wares = Family((("price", "money"),), ("ware", (), ("price",)))
        self.assertEqual(
            judge(wares, first(under(0, "price"))),
            ("key", ((("ware", "price"),), (("money", 0),), (("alike", (below,)), ("alike", (above, on))))),
        )

    def test_woven_kinds_stand_in_one_block(self):
        key = judge(SHELVES, WOVEN)[1]
        block = key[2][0]
        self.assertEqual(block[0], "by")
        self.assertEqual({due[0]: field for due, field in block[2]}, {"flat": "height", "long": "length"})
        self.assertEqual(key[0], (("flat", "height"), ("long", "length")))

    def test_limits_that_are_needed_and_those_that_are_not(self):
        for comparison, due in (
            (first(under(0, "price"), by("price")), ()),
            (first(under(0, "price"), by("-price")), (0,)),
            (first(under(0, "price")), (0,)),
            (first(between(0, 2000, "price"), "alike"), (0, 2000)),
            (first(("and", under(1000, "price"), under(0, "price"))), (0,)),
            (first(("or", under(1000, "price"), under(0, "price")), by("price")), ()),
            (where(under(0, "price"), by("price"), by("price")), ()),
            (first(under(-3000, "price"), first(over(5000, "price"), by("price"))), (-3000, 5000)),
            (first(under(10**11, "price"), "alike"), (10**11,)),
            (first(under(0, "price"), first(under(1000, "price"), by("price"))), ()),
        ):
            self.assertEqual(judge(SINGLE, comparison)[1][1], tuple(("money", limit) for limit in due))
        # A limit of a field that does not matter, and a field that does not matter beside one that does.
        both = first(under(0, "size"), first(("not", under(0, "size")), by("age")))
        self.assertEqual(judge(MIXED, both)[1][:2], ((("shirt", "age"), ("shirt", "size")), (("cents", 0),)))
        self.assertEqual(judge(MIXED, ("if", under(0, "size"), by("age"), by("age")))[1][:2], ((("shirt", "age"),), ()))
        self.assertEqual(
            judge(MIXED, first(("or", under(0, "size"), ("not", under(0, "size")))))[1],
            ((), (), (("alike", (("shirt", ()),)),)),
        )

    def test_just_what_matters_is_read_and_what_is_needed_is_named(self):
        for family, comparison in ORDERS:
            reads, limits, _ = judge(family, comparison)[1]
            values = sorted(limits_in(comparison))
            word = reference.worded(family, comparison)
            records = all_ways(family, values, 2 if len(values) < 2 else 1)
            self.assertEqual(reads, reference.mattering(family, word, records), comparison)
            near = reference.records_with(
                family, sorted({limit + step for limit in values or [0] for step in (-2, -1, 0, 1, 2)})
            )
            if len(near) < 130:
                named = [(measure, limit) for measure in family.measures for limit in values]
                self.assertEqual(limits, reference.needed(family, word, named, near), comparison)

    def test_the_same_said_in_other_words_has_the_same_key(self):
        below, above, same = BELOW, ABOVE, ("same", ("a", "price"), ("b", "price"))
        said = (
            by("price"),
            ("if", above, "greater", ("if", below, "less", "alike")),
            ("if", same, "alike", ("if", below, "less", "greater")),
            (
                "if",
                ("not", ("or", above, same)),
                "less",
                ("if", ("and", ("not", below), ("not", same)), "greater", "alike"),
            ),
            first(under(0, "price"), by("price")),
            where(over(1000, "price"), by("price"), by("price")),
            ("if", ("is", "a", "pen"), by("price"), by("price")),
            ("if", ("same", ("b", "price"), ("a", "price")), "alike", by("price")),
            ("if", ("and", ("less", ("a", "price"), 0), ("less", 0, ("b", "price"))), "less", by("price")),
            ("if", ("and",), by("price"), "less"),
        )
        self.assertEqual(len({repr(judge(SINGLE, comparison)) for comparison in said}), 1)
        self.assertEqual(len({repr(judge(SINGLE, comparison)) for comparison in (*said, by("-price"), "alike")}), 3)

    def test_kinds_with_names_of_words(self):
        for comparison, due in (
            (first(("is", "a", "not")), "key"),
            (by_known("not", "is"), "key"),
            (by("self", rest=first(("is", "a", "and"))), "broken"),
            (by("if"), "broken"),
            (("if", ("is", "a", "a"), "less", "alike"), "broken"),
        ):
            self.assertEqual(judge(WORDY, comparison)[0], due)
            self.assert_right(WORDY, comparison, 60)

    def test_three_values_in_all_rows_and_ways(self):
        # Which value leads, which follows: told by comparisons, and by the names of fields.
        records = reference.records_with(TRIPLE, range(3))
        for names in permutations("xyz"):
            for signs in product(("", "-"), repeat=3):
                row = [sign + name for sign, name in zip(signs, names)]
                comparison = by(*row)
                word, key = judge(TRIPLE, comparison)
                self.assertEqual((word, key), ("key", Order.by(TRIPLE, *row).key))
                words = table(TRIPLE, comparison, records)
                for one, other in random.Random(5).choices(list(product(range(27), repeat=2)), k=60):
                    self.assertEqual(key_word(TRIPLE, key, records[one], records[other]), words[one][other])

    def test_three_values_of_one_measure(self):
        for comparison, due in (
            (by("x", "-y", "z"), "key"),
            (MOST, "broken"),
            (apart(("less", ("a", "x"), ("a", "y")), by("z", "x"), by("y", "-z")), "key"),
            (where(("less", ("a", "x"), ("a", "z")), by("y"), by("x")), "broken"),
            (first(("same", ("a", "x"), ("a", "z")), by("-z", "y")), "key"),
        ):
            self.assertEqual(judge(TRIPLE, comparison)[0], due)
            self.assertEqual(
                is_order(table(TRIPLE, comparison, reference.records_with(TRIPLE, range(6 if due == "broken" else 4)))),
                due == "key",
            )
            self.assert_right(TRIPLE, comparison)

    def test_any_value_that_is_no_comparison(self):
        known = samples.Judge(SHOP, "ab")
        for thing in bent(("if", ("and", BELOW, ("is", "a", "pen")), "less", "alike")):
            if known.is_comparison(thing):
                self.assertIn(judge(SHOP, thing)[0], ("key", "broken"))
                continue
            with self.assertRaises(BadComparison) as caught:
                judge(SHOP, thing)
            self.assertIs(caught.exception.thing, thing)


class TooManyCells(unittest.TestCase):
    FIELDS = (("x", "m"), ("y", "n"), ("z", "n"))
    # Three kinds with 31 cells each, two with 3, and one with 1: 100.
    KINDS = (*[(name, (), ("x",)) for name in "pqr"], *[(name, (), ("y", "z")) for name in "st"], ("u", (), ()))
    WITH_100 = Family(FIELDS, *KINDS)
    WITH_101 = Family((*FIELDS, ("w", "n")), *KINDS[:4], ("t", (), ("w", "y", "z")), ("u", (), ()))

    def comparison(self, many):
        parts = [("and", ("not", under(2000 * at, "x")), under(2000 * at + 1000, "x")) for at in range(many // 2)]
        parts += [under(9000 * at, "x") for at in range(-1, many % 2 - 1)]
        return first(("or", *parts), by_known("y"))

    def stripes(self, rest):
        """Fifteen limits, in thirty tests."""
        ups = [under(1000 * at, "x") for at in range(15)]
        alone = ("or", *[("and", ("not", ups[2 * at]), ups[2 * at + 1]) for at in range(7)], ups[14])
        other = (
            "or",
            *[
                ("and", ("not", ("less", ("b", "x"), 2000 * at)), ("less", ("b", "x"), 2000 * at + 1000))
                for at in range(7)
            ],
            ("less", ("b", "x"), 14000),
        )
        return ("if", ("and", alone, ("not", other)), "less", ("if", ("and", other, ("not", alone)), "greater", rest))

    def test_just_a_hundred(self):
        comparison = ("if", ("less", ("a", "y"), ("a", "z")), self.stripes("alike"), self.stripes("alike"))
        reads = tuple((kind, field) for kind, _, own in self.KINDS for field in own)
        limits = tuple(("m", 1000 * at) for at in range(15))
        self.assertEqual(len(cells_of(self.WITH_100, reads, limits)), 100)
        word, key = judge(self.WITH_100, comparison)
        self.assertEqual((word, key[0]), ("key", reads[:3]))
        # Below fourteen thousand all have the condition, so only the last limit is needed.
        self.assertEqual(key[1], limits[14:])
        whole = plain(self.WITH_100, key, reads, limits)
        self.assertIs(is_plain(self.WITH_100, whole), True)
        self.assertIs(key_holds(self.WITH_100, comparison, whole), True)
        self.assertEqual(
            judge(self.WITH_100, where(("less", ("a", "y"), ("a", "z")), self.stripes("less"), "alike"))[0], "broken"
        )

    def test_more_than_a_hundred(self):
        twice = ("if", ("less", ("a", "y"), ("a", "z")), self.stripes("alike"), "less")
        one_more = Family((*self.FIELDS, ("v", "o")), *self.KINDS[:-1], ("u", (), ("v",)))
        self.assert_too_many(102, lambda: judge(one_more, ("if", ("same", ("a", "v"), 0), twice, "alike")))
        limits = ("or", *[under(1000 * at, "x") for at in range(50)])
        pens = Family((("x", "m"),), ("p", (), ("x",)))
        self.assert_too_many(101, lambda: judge(pens, first(limits)))
        self.assertEqual(judge(pens, first(("or", *limits[2:])))[0], "key")

    def test_the_number_however_great(self):
        fields = tuple((name, "m" if name in "abc" else "n") for name in "abcdef")
        family = Family(fields, *[(name, (), ("a", "b", "c", "d")) for name in "pqrstu"])
        reading = ("or", *[("same", ("a", name), ("b", name)) for name in "abcd"])
        self.assert_too_many(
            6 * 13 * 3, lambda: judge(family, ("if", ("and", reading, ("same", ("a", "d"), 0)), "less", "alike"))
        )
        ways = 13
        for limits in (1, 2, 3):
            ways = self.ways(limits, 3)
            tests = [("less", ("a", "a"), 1000 * at) for at in range(limits)]
            self.assert_too_many(6 * ways, lambda: judge(family, ("if", ("and", reading, *tests), "less", "alike")))
        tests = [("less", ("a", name), 10**9 * at) for at in range(13) for name in "ad"]
        self.assert_too_many(
            6 * self.ways(13, 3) * 27, lambda: judge(family, ("if", ("and", reading, *tests), "less", "alike"))
        )

    def ways(self, limits, fields):
        groups = {limits: 1}
        for _ in range(fields):
            wider = {}
            for many, ways in groups.items():
                wider[many] = wider.get(many, 0) + ways * many
                wider[many + 1] = wider.get(many + 1, 0) + ways * (many + 1)
            groups = wider
        return sum(groups.values())

    def test_key_and_comparison_together(self):
        pens = Family((("x", "m"), ("y", "m"), ("z", "m"), ("w", "n")), ("p", (), ("w", "x", "y", "z")))
        key = judge(pens, by("x", "y", "z"))[1]
        self.assertIs(key_holds(pens, by("x", "y", "z"), key), True)
        # 13 cells by the one, 3 by the other, 75 and 39 together.
        self.assertIs(key_holds(pens, first(under(0, "x")), key), False)
        self.assertIs(key_holds(pens, first(under(0, "w")), key), False)
        several = first(("or", under(0, "w"), under(1000, "w"), under(2000, "w"), under(3000, "w")))
        self.assert_too_many(117, lambda: key_holds(pens, several, key))
        self.assertIs(key_holds(pens, several, (*key[:2], list(key[2]))), False)
        self.assertIs(key_holds(pens, several, "key"), False)
        wide = (key[0], tuple(("m", at * 1000) for at in range(3)), ())
        self.assert_too_many(self.ways(3, 3), lambda: key_holds(pens, "alike", wide))
        self.assert_too_many(self.ways(3, 3), lambda: key_holds(pens, several, wide))

    def assert_too_many(self, due, call):
        with self.assertRaises(TooMany) as caught:
            call()
        self.assertEqual(caught.exception.cells, due)


class Holds(unittest.TestCase):
    def test_just_the_records_that_break_it(self):
        found = {True: 0, False: 0}
        for _, family, comparison in BROKEN:
            records = all_ways(family, sorted(limits_in(comparison)), 1)
            choice = random.Random(3)
            rows = [choice.choices(records, k=many) for many in (1, 2, 3) for _ in range(300)]
            for row in rows:
                due = reference.breaks(family, comparison, row)
                self.assertIs(broken_holds(family, comparison, tuple(row)), due)
                found[due] = found[due] + 1
            self.assertIs(broken_holds(family, comparison, judge(family, comparison)[1]), True)
        self.assertGreater(min(found.values()), 1000)

    def test_no_records_break_an_order(self):
        for family, comparison in ORDERS:
            records = all_ways(family, sorted(limits_in(comparison)), 1)
            choice = random.Random(4)
            for many in (1, 2, 3):
                self.assertIs(broken_holds(family, comparison, tuple(choice.choices(records, k=many))), False)

    def test_any_value_beside_a_broken_comparison(self):
        for many, family, comparison in BROKEN[::3]:
            records = judge(family, comparison)[1]
            self.assertIs(broken_holds(thing=records, comparison=comparison, family=family), True)
            self.assertIs(broken_holds(family, comparison, ()), False)
            self.assertIs(broken_holds(family, comparison, list(records)), False)
            self.assertIs(broken_holds(family, comparison, (*records, *records[:1], *records, *records)), False)
            for thing in bent(records):
                due = (
                    isinstance(thing, tuple) and 1 <= len(thing) <= 3 and all(family.is_record(part) for part in thing)
                )
                due = due and reference.breaks(family, comparison, thing)
                self.assertIs(broken_holds(family, comparison, thing), due, thing)

    def test_bools_in_records(self):
        self.assertIs(broken_holds(SINGLE, "less", (("pen", (1,)),)), True)
        self.assertIs(broken_holds(SINGLE, "less", (("pen", (True,)),)), False)
        self.assertIs(broken_holds(SINGLE, "less", ("pen", (1,))), False)
        self.assertIs(broken_holds(SINGLE, "less", deep(1, 29)), False)

    def test_just_the_keys_that_say_it(self):
        by_family = {}
        for family, comparison in ORDERS:
            by_family.setdefault(family.text, []).append((family, comparison, judge(family, comparison)[1]))
        for row in by_family.values():
            for family, comparison, key in row:
                self.assertIs(key_holds(thing=key, comparison=comparison, family=family), True)
                for _, other, other_key in row:
                    self.assertIs(key_holds(family, other, key), key == other_key)
                for reads, limits in (((), ()), ((), tuple((measure, 5000) for measure in family.measures[:1]))):
                    wider = plain(family, key, reads, limits)
                    self.assertIs(key_holds(family, comparison, wider), True)

    def test_keys_of_what_is_no_order(self):
        for _, family, comparison in BROKEN:
            for other_family, other in ORDERS:
                if family == other_family:
                    self.assertIs(key_holds(family, comparison, judge(family, other)[1]), False)

    def test_words_that_differ_for_one_way_to_lie_alone(self):
        said = {
            repr(judge(SINGLE, by(name))[1]): due
            for name, due in (("price", ("less", "greater", "alike")), ("-price", ("greater", "less", "alike")))
        }
        said[repr(judge(SINGLE, "alike")[1])] = ("alike",) * 3
        for words in product(("less", "alike", "greater"), repeat=3):
            comparison = ("if", BELOW, words[0], ("if", ABOVE, words[1], words[2]))
            for written, due in said.items():
                self.assertIs(key_holds(SINGLE, comparison, ast.literal_eval(written)), words == due)

    def test_any_value_beside_a_key(self):
        for family, comparison in (
            (SINGLE, first(under(0, "price"), by("-price"))),
            (TIMES, by("begin", "-end")),
            (BARE, first(("is", "a", "left"))),
        ):
            key = judge(family, comparison)[1]
            for thing in bent(key, (None, True, False, 0, 1000, "", "price", "up", (), [], (None,), {})):
                self.assertIs(key_holds(family, comparison, thing), repr(thing) == repr(key), thing)


if __name__ == "__main__":
    unittest.main()
