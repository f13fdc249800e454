"""Keys: which values are some, plain and normal ones, what they say, and keys that say the same."""

import random
import unittest
from itertools import product

from keybehind.cells import cells_of
from keybehind.errors import TooMany
from keybehind.families import Family
from keybehind.judging import judge
from keybehind.keys import is_key, is_normal, is_plain, key_says, normal, parting, plain
from tests import reference
from tests.comparisons import ORDERS
from tests.helpers import SHOP, TIMES, bent, deep
from tests.reference import BARE, FAMILIES, SINGLE, TRIPLE, cells_in, key_word

SPAN = (("span", "begin"), ("span", "end"))
# The cells of spans: the begin ahead of the end, both the same, the end ahead of the begin.
UP = ("span", (("time", (((), ("begin",)), ((), ("end",)))),))
SAME = ("span", (("time", (((), ("begin", "end")),)),))
DOWN = ("span", (("time", (((), ("end",)), ((), ("begin",)))),))
CELLS = (UP, SAME, DOWN)


def by_begin(*node, way="up"):
    return ("by", way, tuple((cell, "begin") for cell in CELLS), node or (("alike", CELLS),))


def told_by_ends(field="end"):
    """By begin, then by end, in each cell on its own side."""
    below = (
        ("by", "up", ((DOWN, "end"),), (("alike", (DOWN,)),)),
        ("alike", (SAME,)),
        ("by", "up", ((UP, field),), (("alike", (UP,)),)),
    )
    return (SPAN, (), (by_begin(*below),))


def is_key_by_words(family, thing):
    """Whether a value is a key, told by looking at it part by part, and at whole parts by how they are written."""
    if not isinstance(thing, tuple) or len(thing) != 3:
        return False
    reads, limits, node = thing
    due = [(kind, field) for kind in family.names for field in family.fields_of(kind)]
    if not isinstance(reads, tuple) or any(repr(pair) not in map(repr, due) for pair in reads):
        return False
    if not isinstance(limits, tuple) or not all(isinstance(pair, tuple) and len(pair) == 2 for pair in limits):
        return False
    if any(
        type(name) is not str or name not in family.measures or type(limit) is not int or limit % 1000
        for name, limit in limits
    ):
        return False
    if sorted(set(reads)) != list(reads) or sorted(set(limits)) != list(limits):
        return False
    return is_node_by_words(family, dict(enumerate(cells_of(family, reads, limits))), reads, node)


def is_node_by_words(family, cells, reads, node):
    written = {repr(cell): at for at, cell in cells.items()}
    if not isinstance(node, tuple):
        return False
    found = []
    for block in node:
        if (
            not isinstance(block, tuple)
            or len(block) not in (2, 4)
            or block[0] != ("alike", None, "by")[len(block) - 2]
        ):
            return False
        row = block[len(block) // 2]
        if not isinstance(row, tuple) or not row or not all(isinstance(part, tuple) and len(part) == 2 for part in row):
            return False
        due = [part if len(block) == 2 else part[0] for part in row]
        numbers = [written.get(repr(cell)) for cell in due]
        if None in numbers or sorted(set(numbers)) != numbers:
            return False
        found += numbers
        if len(block) == 4:
            fields = [part[1] for part in row]
            if block[1] not in ("up", "down") or any(
                repr((cell[0], field)) not in map(repr, reads) for cell, field in row
            ):
                return False
            if len({family.measure_of(field) for field in fields}) > 1:
                return False
            if not is_node_by_words(family, {at: cells[at] for at in numbers}, reads, block[3]):
                return False
    return sorted(found) == sorted(cells)


def any_key(choice, family, reads, limits, deep=3):
    """Any key, plain or not."""

    def node(cells, deep):
        cells, blocks = choice.sample(cells, len(cells)), []
        while cells:
            some = sorted(cells[: choice.randint(1, len(cells))])
            fields = {cell: [field for kind, field in reads if kind == cell[0]] for cell in some}
            measures = sorted({family.measure_of(field) for cell in some[:1] for field in fields[cell]})
            if deep and measures and choice.random() < 0.7:
                measure = choice.choice(measures)
                lying = {
                    cell: [field for field in fields[cell] if family.measure_of(field) == measure] for cell in some
                }
                some = [cell for cell in some if lying[cell]]
                pairs = tuple((cell, choice.choice(lying[cell])) for cell in some)
                blocks.append(("by", choice.choice(("up", "down")), pairs, node(some, deep - 1)))
            else:
                blocks.append(("alike", tuple(some)))
            cells = [cell for cell in cells if cell not in some]
        return tuple(blocks)

    return reads, limits, node(list(cells_of(family, reads, limits)), deep)


def changed(choice, node):
    """A node that is changed at one place, still one for the same cells."""
    node = list(node)
    at = choice.randrange(len(node))
    block, way = node[at], choice.random()
    if block[0] == "by" and way < 0.4:
        node[at] = (*block[:3], changed(choice, block[3]))
    elif block[0] == "by" and way < 0.7:
        node[at] = ("by", "up" if block[1] == "down" else "down", *block[2:])
    elif block[0] == "by":
        node[at] = ("alike", tuple(cells_in(block)))
    elif len(block[1]) > 1 and way < 0.5:
        node[at : at + 1] = [("alike", block[1][:1]), ("alike", block[1][1:])]
    else:
        node[at - 1], node[at] = node[at], node[at - 1]
    return tuple(node)


def some_keys(times):
    """Keys of all sorts, with their families."""
    choice = random.Random(11)
    for _ in range(times):
        family = choice.choice((*FAMILIES, TRIPLE))
        reads = tuple(
            (kind, field) for kind in sorted(family.names) for field in family.fields_of(kind) if choice.random() < 0.6
        )
        limits = tuple((measure, limit) for measure in family.measures for limit in (0, 1000) if choice.random() < 0.25)
        try:
            key = any_key(choice, family, reads, limits, choice.randint(0, 3))
        except TooMany:
            continue
        if len(cells_of(family, reads, limits)) < 30:
            yield family, key
            whole = plain(family, key, (), ())
            yield family, whole
            if whole[2]:
                yield family, (*key[:2], changed(choice, whole[2]))
            if normal(family, key)[2]:
                yield family, normal(family, key)


KEYS = tuple(some_keys(150))


def near_records(family, limits, times=12):
    choice = random.Random(12)
    values = sorted({limit + step for _, limit in limits for step in (-2, -1, 0, 1, 2)} or {0, 1, 2, 3})
    records = [
        (kind, tuple(choice.choice(values) for _ in family.fields_of(kind)))
        for kind in family.names
        for _ in range(times)
    ]
    return sorted(set(records))


class IsKey(unittest.TestCase):
    def test_keys(self):
        for family, key in KEYS:
            self.assertIs(is_key(family, key), True)
            self.assertTrue(is_key_by_words(family, key))
        self.assertIs(is_key(thing=((), (), ()), family=Family(())), True)
        self.assertIs(is_key(Family(()), ((), (), ((),))), False)
        self.assertIs(is_key(SHOP, ((), (), ())), False)

    def test_bent_at_any_depth(self):
        found = {True: 0, False: 0}
        odd = (
            None,
            True,
            False,
            0,
            1,
            1000,
            500,
            "",
            "up",
            "down",
            "alike",
            "by",
            "begin",
            "time",
            (),
            ("begin",),
            [],
            ["begin"],
            {},
            (None,),
            ((),),
            UP,
            (UP,),
            10**39,
            "x" * 4000,
        )
        for family, key in (
            (TIMES, told_by_ends()),
            (TIMES, judge(TIMES, ORDERS[21][1])[1]),
            (BARE, judge(BARE, ORDERS[1][1])[1]),
            (SINGLE, plain(SINGLE, judge(SINGLE, ORDERS[4][1])[1], (), (("money", 0),))),
        ):
            for thing in bent(key, odd):
                due = is_key_by_words(family, thing)
                self.assertIs(is_key(family, thing), due, thing)
                found[due] = found[due] + 1
                if not due:
                    self.assertIs(is_plain(family, thing), False)
                    self.assertIs(is_normal(family, thing), False)
        self.assertGreater(found[False], 10000)
        self.assertGreater(found[True], 30)

    def test_what_is_wrong_at_one_place(self):
        good = told_by_ends()
        self.assertIs(is_key(TIMES, good), True)
        for bad in (
            (SPAN[::-1], (), good[2]),
            (SPAN + SPAN[1:], (), good[2]),
            (list(SPAN), (), good[2]),
            (SPAN, [], good[2]),
            (SPAN, (), list(good[2])),
            (SPAN, (("time", True),), good[2]),
            (SPAN, (("time", 500),), good[2]),
            (SPAN, (("money", 0),), good[2]),
            (SPAN, (("time", 0),), good[2]),
            (SPAN[:1], (), good[2]),
            good[:2],
            (*good, ()),
            (SPAN, (), good[2] + good[2]),
            (SPAN, (), ()),
            (SPAN, (), (("alike", ()), *good[2])),
            (SPAN, (), (("alike", (SAME, UP, DOWN)),)),
            (SPAN, (), (("alike", (SAME, DOWN)),)),
            (SPAN, (), (("alike", (UP, SAME, SAME, DOWN)),)),
            (SPAN, (), (("alike", list(CELLS)),)),
            (SPAN, (), (("alike", (SAME,)), ("alike", (DOWN,)))),
            (SPAN, (), (["alike", CELLS],)),
            (SPAN, (), (("alike", CELLS, ()),)),
            (SPAN, (), (("same", CELLS),)),
            (SPAN, (), (("by", "up", (), ()), *good[2])),
            (SPAN, (), (by_begin(way="left"),)),
            (SPAN, (), (by_begin(("alike", (UP, SAME))),)),
            (SPAN, (), (by_begin(*good[2], ("alike", (UP,))),)),
            (SPAN, (), (("by", "up", ((SAME, "begin"), (UP, "begin"), (DOWN, "begin")), (("alike", CELLS),)),)),
            (SPAN, (), (("by", "up", ((SAME, "begin"), (SAME, "end")), (("alike", (SAME,)),)), ("alike", (UP, DOWN)))),
            (SPAN, (), (("by", "up", ((SAME, "price"),), (("alike", (SAME,)),)), ("alike", (UP, DOWN)))),
        ):
            self.assertIs(is_key(TIMES, bad), False, bad)
            self.assertIs(is_plain(TIMES, bad), False, bad)
            self.assertIs(is_normal(TIMES, bad), False, bad)

    def test_one_measure_beside_the_cells_of_a_block(self):
        reads = (("shirt", "age"), ("shirt", "size"))
        cells = cells_of(reference.MIXED, reads, (("cents", 0),))
        for fields, due in ((("age",) * 3, True), (("size",) * 3, True), (("age", "size", "age"), False)):
            key = (reads, (("cents", 0),), (("by", "up", tuple(zip(cells, fields)), (("alike", cells),)),))
            self.assertIs(is_key(reference.MIXED, key), due)
        self.assertIs(
            is_key(
                reference.MIXED,
                (reads[:1], (), (("by", "up", ((cells_of(reference.MIXED, reads[:1], ())[0], "size"),), ()),)),
            ),
            False,
        )

    def test_bools_are_no_limits(self):
        for zero, due in ((0, True), (False, False)):
            cells = [
                ("pen", (("money", lying),))
                for lying in (
                    (((), ("price",)), ((zero,), ())),
                    (((zero,), ()), ((), ("price",))),
                    (((zero,), ("price",)),),
                )
            ]
            family = Family((("price", "money"),), ("pen", (), ("price",)))
            reads = (("pen", "price"),)
            self.assertIs(is_key(family, (reads, (("money", 0),), (("alike", tuple(cells)),))), due)
            self.assertIs(
                is_key(family, (reads, (("money", zero),), (("alike", cells_of(family, reads, (("money", 0),))),))), due
            )

    def test_deep_values_and_deep_keys(self):
        self.assertIs(is_key(TIMES, deep(((), (), ()), 28)), False)
        self.assertIs(is_key(TIMES, (SPAN, (), deep(UP, 25, "alike"))), False)
        self.assertIs(is_key(TIMES, (SPAN, (), (("alike", (deep(SAME, 22, "span"),)),))), False)
        node = (("alike", CELLS),)
        for at in range(300):
            node = (("by", "up" if at % 2 else "down", tuple((cell, "begin") for cell in CELLS), node),)
        self.assertIs(is_key(TIMES, (SPAN, (), node)), True)
        self.assertIs(is_plain(TIMES, (SPAN, (), node)), False)
        self.assertIs(is_normal(TIMES, (SPAN, (), node)), False)
        self.assertEqual(normal(TIMES, (SPAN, (), node)), judge(TIMES, _by("begin"))[1])
        self.assertEqual(key_says(TIMES, (SPAN, (), node), ("span", (1, 0)), ("span", (2, 0))), "less")

    def test_too_many(self):
        limits = tuple(("time", 1000 * at) for at in range(7))
        many = 0
        for call in (is_key, is_plain, is_normal):
            for node in ((), None, [], (("alike", (UP,)),), "less", deep((), 20)):
                with self.assertRaises(TooMany) as caught:
                    call(TIMES, (SPAN, limits, node))
                # Beside seven limits, the one value lies in 15 ways; the other one in 15 if both are the same or on limits.
                self.assertEqual(caught.exception.cells, 7 * 15 + 8 * 17)
                many = many + 1
            for thing in (
                (SPAN, limits),
                (SPAN, limits, (), ()),
                [SPAN, limits, ()],
                (SPAN, limits[::-1], ()),
                (SPAN, list(limits), ()),
                (SPAN[::-1], limits, ()),
                (SPAN, (*limits, ("time", True)), ()),
                (SPAN, (*limits, ("time", 100)), ()),
            ):
                self.assertIs(call(TIMES, thing), False)
        self.assertEqual(many, 18)
        far = tuple(("time", 1000 * at) for at in range(1000))
        with self.assertRaises(TooMany) as caught:
            is_key(TIMES, (SPAN, far, ()))
        self.assertEqual(caught.exception.cells, 1000 * 2001 + 1001 * 2003)

    def test_a_hundred_cells(self):
        family = Family(TIMES.fields, ("span", (), ("begin",)), ("bare", (), ()))
        limits = tuple(("time", at * 1000) for at in range(-20, 29))
        cells = cells_of(family, SPAN[:1], limits)
        self.assertEqual(len(cells), 100)
        choice = random.Random(1)
        key = (SPAN[:1], limits, tuple(("alike", (cell,)) for cell in choice.sample(cells, 100)))
        self.assertIs(is_key(family, key), True)
        self.assertIs(is_plain(family, key), True)
        self.assertEqual(is_normal(family, key), normal(family, key) == key)
        smooth = (SPAN[:1], limits, (("alike", cells),))
        self.assertEqual(normal(family, smooth), ((), (), (("alike", (("bare", ()), ("span", ()))),)))
        self.assertEqual(plain(family, normal(family, smooth), SPAN[:1], limits), smooth)
        with self.assertRaises(TooMany) as caught:
            plain(family, key, (), (("time", -50000),))
        self.assertEqual(caught.exception.cells, 102)


def _by(field):
    return (
        "if",
        ("less", ("a", field), ("b", field)),
        "less",
        ("if", ("less", ("b", field), ("a", field)), "greater", "alike"),
    )


class PlainAndNormal(unittest.TestCase):
    def test_plain_word_for_word(self):
        found = {True: 0, False: 0}
        for family, key in KEYS:
            due = reference.is_plain(family, key)
            self.assertIs(is_plain(family, key), due, key)
            found[due] = found[due] + 1
        self.assertGreater(min(found.values()), 40)

    def test_what_is_not_plain(self):
        self.assertIs(is_plain(TIMES, told_by_ends()), True)
        # A told field again, a field that is not the least of its group, a field in a group with a told one.
        again = by_begin(by_begin())
        self.assertIs(is_plain(TIMES, (SPAN, (), (again,))), False)
        ends = ("by", "up", ((SAME, "end"),), (("alike", (SAME,)),))
        self.assertIs(is_plain(TIMES, (SPAN, (), (ends, ("alike", (UP, DOWN))))), False)
        self.assertIs(
            is_plain(TIMES, (SPAN, (), (("by", "up", ((SAME, "begin"),), (ends,)), ("alike", (UP, DOWN))))), False
        )
        # Two sides of what was told.
        sides = ("by", "up", ((UP, "end"), (DOWN, "end")), (("alike", (UP, DOWN)),))
        for node, due in (((by_begin(sides, ("alike", (SAME,))),), False), ((sides, ("alike", (SAME,))), True)):
            self.assertIs(is_key(TIMES, (SPAN, (), node)), True)
            self.assertIs(is_plain(TIMES, (SPAN, (), node)), due)
        # Two sides of a limit, and a field on a limit.
        reads, limits = (("pen", "price"),), (("money", 0),)
        pens = Family((("price", "money"),), ("pen", (), ("price",)))
        below, above, on = [
            ("pen", (("money", lying),))
            for lying in ((((), ("price",)), ((0,), ())), (((0,), ()), ((), ("price",))), (((0,), ("price",)),))
        ]
        for pair, other, due in (
            ((below, above), on, False),
            ((below,), above, True),
            ((above,), below, True),
            ((on,), above, False),
        ):
            rest = sorted({below, above, on} - set(pair))
            key = (
                reads,
                limits,
                (("by", "up", tuple((cell, "price") for cell in pair), (("alike", pair),)), ("alike", tuple(rest))),
            )
            self.assertIs(is_key(pens, key), True)
            self.assertIs(is_plain(pens, key), due, pair)

    def test_one_plain_key_for_reads_and_limits(self):
        for family, key in KEYS:
            whole = plain(family=family, key=key, reads=(), limits=())
            self.assertEqual(whole[:2], key[:2])
            self.assertTrue(reference.is_plain(family, whole))
            self.assertEqual(whole == key, is_plain(family, key))

    def test_plain_says_the_same(self):
        choice = random.Random(13)
        many = 0
        for family, key in KEYS:
            reads = tuple(
                (kind, field)
                for kind in sorted(family.names)
                for field in family.fields_of(kind)
                if choice.random() < 0.3
            )
            limits = tuple(
                (measure, limit) for measure in family.measures for limit in (-1000, 0) if choice.random() < 0.2
            )
            both = tuple(sorted({*key[0], *reads})), tuple(sorted({*key[1], *limits}))
            try:
                cells = cells_of(family, *both)
            except TooMany as error:
                with self.assertRaises(TooMany) as caught:
                    plain(family, key, reads, limits)
                self.assertEqual(caught.exception.cells, error.cells)
                continue
            wider = plain(family, key, reads, limits)
            self.assertEqual(wider[:2], both)
            self.assertIs(is_plain(family, wider), True)
            self.assertEqual(sorted(cell for block in wider[2] for cell in cells_in(block)), list(cells))
            for one, other in product(near_records(family, both[1], 4), repeat=2):
                self.assertEqual(key_word(family, wider, one, other), key_word(family, key, one, other))
            self.assertEqual(normal(family, wider), normal(family, key))
            many = many + 1
        self.assertGreater(many, 300)

    def test_normal(self):
        found = {True: 0, False: 0}
        for family, key in KEYS:
            least = normal(family=family, key=key)
            self.assertTrue(reference.is_plain(family, least))
            self.assertTrue(set(least[0]) <= set(key[0]) and set(least[1]) <= set(key[1]))
            for one, other in product(near_records(family, key[1], 5), repeat=2):
                self.assertEqual(key_word(family, least, one, other), key_word(family, key, one, other))
            self.assertIs(is_normal(family, least), True)
            self.assertIs(is_normal(family, key), key == least)
            found[key == least] = found[key == least] + 1
        self.assertGreater(min(found.values()), 100)

    def test_nothing_more_can_be_left_out(self):
        many = 0
        for family, key in KEYS[::3]:
            reads, limits, _ = least = normal(family, key)
            values = [limit for _, limit in limits]
            records = reference.records_with(
                family, sorted({limit + step for limit in values or [0] for step in (-2, -1, 0, 1, 2)})
            )
            if len(records) > 130:
                continue
            self.assertEqual(
                reference.mattering(family, lambda one, other: key_word(family, least, one, other), records), reads
            )
            if limits:
                self.assertEqual(
                    reference.needed(family, lambda one, other: key_word(family, least, one, other), limits, records),
                    limits,
                )
                many = many + 1
        self.assertGreater(many, 10)

    def test_limits_and_reads_that_are_not_needed_go(self):
        for family, comparison in ORDERS:
            key = judge(family, comparison)[1]
            for measure in family.measures:
                for limits in (
                    ((measure, 5000),),
                    ((measure, -7000), (measure, 5000)),
                    ((measure, -1000), (measure, 0), (measure, 1000)),
                ):
                    if len(family.names) > 3:
                        continue
                    try:
                        wider = plain(family, key, (), limits)
                    except TooMany:
                        continue
                    self.assertEqual(normal(family, wider), key)
                    self.assertEqual(is_normal(family, wider), wider == key)
            for kind in family.names:
                wider = plain(family, key, tuple((kind, field) for field in family.fields_of(kind)), ())
                self.assertEqual(normal(family, wider), key)
                self.assertEqual(is_normal(family, wider), wider == key)

    def test_limits_of_a_measure_that_is_not_read(self):
        key = judge(SHOP, ORDERS[16][1])[1]
        wide = (key[0], (("size", 0), ("size", 1000)), key[2])
        self.assertIs(is_plain(SHOP, wide), True)
        self.assertIs(is_normal(SHOP, wide), False)
        self.assertEqual(normal(SHOP, wide), key)
        many = (key[0], tuple(("size", 1000 * at) for at in range(300)), key[2])
        self.assertIs(is_plain(SHOP, many), True)
        self.assertEqual(normal(SHOP, many), key)


class Saying(unittest.TestCase):
    def test_what_a_key_says(self):
        found = {"less": 0, "alike": 0, "greater": 0}
        for family, key in KEYS:
            for one, other in product(near_records(family, key[1], 5), repeat=2):
                word = key_says(family, key, one, other)
                self.assertEqual(word, key_word(family, key, one, other))
                found[word] = found[word] + 1
        self.assertGreater(min(found.values()), 1000)

    def test_words(self):
        key = told_by_ends()
        for one, other, word in (
            ((1, 2), (1, 2), "alike"),
            ((1, 2), (1, 3), "less"),
            ((1, 2), (1, 1), "greater"),
            ((1, 0), (1, 1), "less"),
            ((2, 0), (1, 9), "greater"),
            ((1, 10**29), (1, -(10**29)), "greater"),
        ):
            self.assertEqual(key_says(family=TIMES, key=key, one=("span", one), other=("span", other)), word)
        down = (SPAN, (), (by_begin(way="down"),))
        self.assertEqual(
            [key_says(TIMES, down, ("span", (1, 0)), ("span", (value, 5))) for value in (0, 1, 2)],
            ["less", "alike", "greater"],
        )
        blocks = (SPAN, (), (("alike", (UP,)), ("alike", (DOWN,)), ("alike", (SAME,))))
        self.assertEqual(
            [key_says(TIMES, blocks, ("span", (1, 0)), ("span", row)) for row in ((0, 1), (9, 3), (4, 4))],
            ["greater", "alike", "less"],
        )

    def test_comparisons(self):
        for family, comparison in ORDERS:
            key, word = judge(family, comparison)[1], reference.worded(family, comparison)
            for one, other in product(near_records(family, (("", 0), ("", 1000)), 6), repeat=2):
                self.assertEqual(key_says(family, key, one, other), word(one, other))


class Parting(unittest.TestCase):
    def test_records_of_which_they_say_unlike_things(self):
        found = {True: 0, False: 0}
        by_family = {}
        for family, key in KEYS:
            by_family.setdefault(family.text, []).append((family, key))
        for row in by_family.values():
            for (family, key), (_, other) in zip(row, row[1:] + row[:1]):
                self.assert_parted(found, family, key, other)
                self.assert_parted(found, family, key, normal(family, key))
        self.assertGreater(min(found.values()), 100)

    def assert_parted(self, found, family, key, other):
        try:
            records = parting(family=family, key=key, other=other)
        except TooMany:
            return
        same = normal(family, key) == normal(family, other)
        self.assertEqual(records is None, same)
        found[same] = found[same] + 1
        if records:
            self.assertIs(type(records), tuple)
            self.assertEqual([family.is_record(record) for record in records], [True, True])
            self.assertNotEqual(key_word(family, key, *records), key_word(family, other, *records))

    def test_too_many(self):
        limits = tuple(("time", at * 1000) for at in range(40))
        keys = []
        for field in ("begin", "end"):
            reads = (("span", field),)
            keys.append((reads, limits, (("alike", cells_of(TIMES, reads, limits)),)))
        with self.assertRaises(TooMany) as caught:
            parting(TIMES, *keys)
        self.assertEqual(caught.exception.cells, 40 * 81 + 41 * 83)
        with self.assertRaises(TooMany) as caught:
            plain(TIMES, keys[0], keys[1][0], ())
        self.assertEqual(caught.exception.cells, 40 * 81 + 41 * 83)
        self.assertIsNone(parting(TIMES, keys[0], keys[0]))

    def test_what_differs_in_one_place_alone(self):
        # Only records with both values on one side, or with equal ends, or with three limits between them, tell these apart.
        one = told_by_ends()
        for at in range(3):
            below = list(one[2][0][3])
            below[at] = ("alike", tuple(cells_in(below[at])))
            other = (SPAN, (), (by_begin(*below),))
            records = parting(TIMES, one, other)
            self.assertEqual(records is None, at == 1)
        whole = told_by_ends()[2][0][3]
        self.assertIsNotNone(parting(TIMES, one, (SPAN, (), (by_begin(whole[1], whole[0], whole[2]),))))


if __name__ == "__main__":
    unittest.main()
