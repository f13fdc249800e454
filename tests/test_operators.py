"""Operators of kinds: beside classes of Python, which ask each other in the same way."""

import random
import unittest
from itertools import permutations, product

from keybehind.cells import cells_of
from keybehind.conditions import is_comparison, written
from keybehind.errors import BadOperators, Broken, NotOrder, NotRecord, OtherFamily, Refused, TooMany
from keybehind.families import Family
from keybehind.operators import Operators
from keybehind.orders import Order
from tests import helpers, reference, samples
from tests.classes import REFLECTED, SIGNS, Classes, by_less, due
from tests.comparisons import ORDERS, by, by_known, first, ordered_from, swapped, under
from tests.helpers import SHOP, TIMES, bent, deep
from tests.reference import BARE, FAMILIES, SINGLE, TURNED, all_ways, broken, is_order
from tests.samples import condition_from, tests_of, tree_from

BELOW, ABOVE = ("less", ("a", "price"), ("b", "price")), ("less", ("b", "price"), ("a", "price"))
DIAMOND = Family(
    (("x", "m"),),
    ("base", (), ()),
    ("left", ("base",), ("x",)),
    ("right", ("base",), ("x",)),
    ("both", ("left", "right"), ()),
    ("own", ("both",), ()),
)
ANSWERS = ("yes", "no", "other")


def answers(comparison, sign):
    """The program by which a sign answers as a comparison says."""
    if isinstance(comparison, str):
        return due(sign, comparison)
    return (*comparison[:2], answers(comparison[2], sign), answers(comparison[3], sign))


def any_operators(choice, family, limits, often=0.5, deepest=3):
    tests = tests_of(family, "ab", limits)
    entries = [
        (kind, sign, tree_from(choice, tests, choice.randint(0, deepest), ANSWERS))
        for kind in family.names
        for sign in SIGNS
        if choice.random() < often
    ]
    choice.shuffle(entries)
    return entries


def lively_operators(choice, family, limits, sign="<"):
    """Entries of which few refuse anything, some of them by an order."""
    tests, single = tests_of(family, "ab", limits), tests_of(family, "a", limits)
    names = [field for field, _ in family.fields]
    base = ordered_from(choice, tests, single, names, choice.randint(0, 2))
    entries = []
    for kind in family.names:
        for part in (sign, REFLECTED[sign]):
            if choice.random() < 0.85:
                program = answers(base, part)
                if choice.random() < 0.2:
                    program = ("if", condition_from(choice, tests, 1), choice.choice(ANSWERS), program)
                entries.append((kind, part, program))
    return entries


def some_records(family, limits, times=5):
    choice = random.Random(71)
    values = sorted({limit + step for limit in limits or (0,) for step in (-2, -1, 0, 1, 2)})
    return [
        (kind, tuple(choice.choice(values) for _ in family.fields_of(kind))) for kind in family.names for _ in range(times)
    ]


class Case(helpers.Case):
    def assert_pair(self, family, records):
        self.assertIs(type(records), tuple)
        self.assertEqual([family.is_record(record) for record in records], [True, True])


class Entries(Case):
    def test_in_any_order(self):
        entries = [(kind, sign, "yes") for kind in DIAMOND.names for sign in SIGNS]
        choice = random.Random(72)
        for _ in range(5):
            choice.shuffle(entries)
            found = Operators(DIAMOND, *entries)
            self.assertEqual(found.entries, tuple(sorted(entries)))
            self.assertIs(found.family, DIAMOND)
            self.assertEqual(sorted(vars(found))[:2], ["entries", "family"])
        self.assertEqual([part[1] for part in Operators(DIAMOND, *entries).entries[:4]], ["<", "<=", ">", ">="])
        self.assertEqual(Operators(family=DIAMOND).entries, ())
        self.assertEqual(Operators(Family(())).entries, ())

    def test_of_any_value(self):
        known = samples.Judge(SHOP, "ab")

        def is_program(thing):
            if isinstance(thing, str):
                return thing in ANSWERS
            if not isinstance(thing, tuple) or len(thing) != 4 or repr(thing[0]) != "'if'":
                return False
            return known.is_condition(thing[1]) and is_program(thing[2]) and is_program(thing[3])

        def is_entry(thing):
            return (
                isinstance(thing, tuple)
                and len(thing) == 3
                and isinstance(thing[0], str)
                and thing[0] in SHOP.names
                and isinstance(thing[1], str)
                and thing[1] in SIGNS
                and is_program(thing[2])
            )

        found = {True: 0, False: 0}
        program = ("if", ("and", BELOW, ("not", ("is", "a", "pen"))), "yes", ("if", under(0, "price"), "no", "other"))
        odd = (None, True, 0, 1000, "", "yes", "other", "less", "pen", "<", "<=", "=", "==", "<>", (), [], {}, (None,))
        for thing in bent(("ware", "<", program), odd):
            found[is_entry(thing)] = found[is_entry(thing)] + 1
            if is_entry(thing):
                self.assertEqual(Operators(SHOP, thing).entries, (thing,))
            else:
                self.assertIs(self.assert_raises(BadOperators, lambda: Operators(SHOP, thing)).part, thing)
        self.assertGreater(min(found.values()), 15)
        self.assert_raises(BadOperators, lambda: Operators(SHOP, deep("yes", 29)))
        self.assert_raises(BadOperators, lambda: Operators(SHOP, ("ware", "<", deep("yes", 28, "if"))))

    def test_the_first_one_that_is_wrong(self):
        good, bad, again = ("ware", "<", "yes"), ("ware", "<", "less"), ("ware", "<", "no")
        other = ("pen", "<", "yes")
        self.assert_raises(BadOperators, lambda: Operators(SHOP, good, bad, None), part=bad)
        self.assert_raises(BadOperators, lambda: Operators(SHOP, good, other, again, bad), part=again)
        self.assert_raises(BadOperators, lambda: Operators(SHOP, good, good), part=good)
        self.assert_raises(BadOperators, lambda: Operators(TIMES, good), part=good)
        self.assertEqual(Operators(SHOP, good, other).entries, (other, good))

    def test_texts_of_programs(self):
        self.assertEqual([written(word) for word in ANSWERS], list(ANSWERS))
        self.assertEqual(
            written(("if", BELOW, "yes", ("if", ("and",), "other", "no"))),
            "if a.price < b.price then yes else if always then other else no",
        )
        self.assertIs(is_comparison(SHOP, ("if", BELOW, "yes", "no")), False)


class Asking(Case):
    def test_beside_python(self):
        choice = random.Random(73)
        found = dict.fromkeys(("yes", "no", "refused"), 0)
        for family in (*FAMILIES, DIAMOND, DIAMOND):
            for _ in range(15):
                limits = choice.choice(((), (0,)))
                entries = any_operators(choice, family, limits, choice.choice((0.3, 0.6, 0.9)))
                operators, classes = Operators(family, *entries), Classes(family, entries)
                records = some_records(family, limits, 3)
                things = [classes.thing(record) for record in records]
                for (r, one), (s, other) in product(zip(records, things), repeat=2):
                    for sign in SIGNS:
                        word, asked = classes.ask(sign, one, other)
                        self.assertEqual(operators.ask(sign, r, s), word)
                        self.assertEqual(operators.asked(sign, r, s), asked)
                        found[word] = found[word] + 1
        self.assertGreater(min(found.values()), 3000)

    def test_by_name(self):
        operators = Operators(SHOP, ("ware", "<", ("if", BELOW, "yes", "no")))
        pen, ware = ("pen", (1, 2)), ("ware", (3,))
        self.assertEqual(operators.ask(sign="<", one=pen, other=ware), "yes")
        self.assertEqual(operators.asked(other=ware, one=pen, sign="<"), operators.entries)
        self.assertEqual(operators.asked("<=", pen, ware), ())

    def test_entries_along_lines(self):
        word_by_kind = {"base": ("if", ("is", "b", "own"), "other", "yes"), "left": "other", "right": "no"}
        operators = Operators(DIAMOND, *[(kind, "<", word) for kind, word in word_by_kind.items()])
        both, own, left, base = ("both", (1,)), ("own", (1,)), ("left", (1,)), ("base", ())
        # both has the entry of left, not that of right; whoever is asked by its reflected sign has none.
        self.assertEqual(operators.asked("<", both, base), (("left", "<", "other"),))
        self.assertEqual(operators.ask("<", both, base), "refused")
        self.assertEqual(operators.ask("<", base, left), "yes")
        self.assertEqual(operators.ask("<", base, own), "refused")
        # "other" asks nobody further up the line.
        self.assertEqual(operators.asked("<", own, own), (("left", "<", "other"),))

    def test_heirs_are_asked_first(self):
        up, down = ("base", "<", "no"), ("left", ">", "yes")
        operators = Operators(DIAMOND, up, down)
        base, left, both, right = ("base", ()), ("left", (1,)), ("both", (1,)), ("right", (1,))
        self.assertEqual(operators.asked("<", base, left), (down,))
        self.assertEqual(operators.ask("<", base, both), "yes")
        self.assertEqual(operators.asked("<", base, right), (up,))
        self.assertEqual(operators.asked("<", left, left), (up,))
        self.assertEqual(operators.asked("<", left, both), (down,))
        self.assertEqual(operators.asked("<", right, left), (up,))
        self.assertEqual(operators.asked(">", left, base), (down,))
        self.assertEqual(operators.asked(">", base, left), (up,))

    def test_wrong_values(self):
        operators = Operators(SHOP, ("ware", "<", "yes"))
        pen = ("pen", (1, 2))
        for thing in (None, True, 0, "", "=", "==", "<<", "less", "< ", ("<",), ["<"], {}, (), 10**39, "x" * 4000):
            for call in (
                lambda: operators.ask(thing, None, None),
                lambda: operators.asked(thing, pen, None),
                lambda: operators.refused(sign=thing),
                lambda: operators.otherwise(thing, None),
            ):
                self.assertIs(self.assert_raises(BadOperators, call).part, thing)
        for thing in bent(pen):
            if not SHOP.is_record(thing):
                for call in (operators.ask, operators.asked):
                    self.assertIs(self.assert_raises(NotRecord, lambda: call("<", thing, None)).thing, thing)
                    self.assertIs(self.assert_raises(NotRecord, lambda: call("<", pen, thing)).thing, thing)


class AllRecords(Case):
    """What is told of all records, beside those that show all ways in which values can lie."""

    def drawn(self, seed, times, draw=lively_operators, families=(SINGLE, TIMES, SHOP, BARE, DIAMOND)):
        choice = random.Random(seed)
        for at in range(times):
            family = families[at % len(families)]
            limits = choice.choice(((), (), (0,))) if family in (SINGLE, DIAMOND) else ()
            sign = choice.choice(SIGNS)
            entries = draw(choice, family, limits, sign)
            yield family, limits, sign, Operators(family, *entries), Classes(family, entries), choice

    def test_refused(self):
        found = {True: 0, False: 0}
        for family, limits, sign, operators, classes, _ in self.drawn(74, 300):
            for asked in (sign, REFLECTED[sign]):
                records = operators.refused(asked)
                found[records is None] = found[records is None] + 1
                if records is not None:
                    self.assert_pair(family, records)
                    self.assertEqual(operators.ask(asked, *records), "refused")
                    continue
                things = [classes.thing(record) for record in all_ways(family, limits, 2)[:60]]
                for one, other in product(things, repeat=2):
                    self.assertNotEqual(classes.ask(asked, one, other)[0], "refused")
        self.assertGreater(min(found.values()), 30)

    def test_other_signs_have_no_entries(self):
        for family, _, sign, operators, _, _ in self.drawn(75, 20):
            for other in SIGNS:
                if other not in (sign, REFLECTED[sign]):
                    self.assert_pair(family, operators.refused(other))

    def test_by_less(self):
        found = {"order": 0, NotOrder: 0, Refused: 0}
        for family, limits, _, operators, classes, choice in self.drawn(
            76, 400, lambda choice, family, limits, sign: lively_operators(choice, family, limits)
        ):
            records = all_ways(family, limits, 3)
            records = choice.sample(records, 40) if len(records) > 40 else records
            things = [classes.thing(record) for record in records]

            def word(one, other):
                return by_less(classes.ask("<", one, other)[0], classes.ask("<", other, one)[0])

            try:
                order = operators.by_less()
            except Refused as error:
                self.assertEqual(error.sign, "<")
                self.assertEqual(operators.ask("<", error.one, error.other), "refused")
                self.assertIsNotNone(operators.refused("<"))
                found[Refused] = found[Refused] + 1
                continue
            except NotOrder as error:
                self.assertIsNone(operators.refused("<"))
                self.assertIs(type(error.__cause__), Broken)
                self.assertEqual(error.__cause__.records, error.records)
                some = [classes.thing(record) for record in error.records]
                self.assertTrue(all(family.is_record(record) for record in error.records))
                self.assertTrue(broken(lambda one, other: word(some[one], some[other]), len(some)))
                found[NotOrder] = found[NotOrder] + 1
                continue
            found["order"] = found["order"] + 1
            self.assertIs(type(order), Order)
            for (r, one), (s, other) in product(zip(records, things), repeat=2):
                self.assertEqual(order(r, s), word(one, other))
            # Sorting as Python does it is sorting by the order.
            self.assertEqual([thing.view for thing in sorted(things)], [reference.seen(family, r) for r in order.row(*records)])
        self.assertGreater(min(found.values()), 25)

    def test_just_what_is_an_order(self):
        found = {True: 0, False: 0}
        for family, limits, _, operators, classes, _ in self.drawn(
            77, 150, lambda choice, family, limits, sign: lively_operators(choice, family, limits), (SINGLE, BARE, TIMES)
        ):
            if operators.refused("<") is not None:
                continue
            things = [classes.thing(record) for record in all_ways(family, (), 3)]
            if limits or len(things) > 60:
                continue
            answered = [[classes.ask("<", one, other)[0] for other in things] for one in things]
            many = range(len(things))
            words = [[by_less(answered[one][other], answered[other][one]) for other in many] for one in many]
            try:
                operators.by_less()
                self.assertTrue(is_order(words))
                found[True] = found[True] + 1
            except NotOrder:
                self.assertFalse(is_order(words))
                found[False] = found[False] + 1
        self.assertGreater(min(found.values()), 15)

    def test_otherwise(self):
        found = {True: 0, False: 0}
        for family, limits, sign, operators, classes, choice in self.drawn(78, 300):
            try:
                order = operators.by_less() if sign in "<>" else Order(family, "alike")
            except (Refused, NotOrder):
                order = Order(family, "alike")
            for one in (order, -order, Order.by(family, *[field for field, _ in family.fields][:2])):
                for asked in (sign, REFLECTED[sign]):
                    records = operators.otherwise(asked, one)
                    found[records is None] = found[records is None] + 1
                    if records is not None:
                        self.assert_pair(family, records)
                        word = operators.ask(asked, *records)
                        self.assertNotEqual(word, "refused")
                        self.assertNotEqual(word, due(asked, one(*records)))
                        continue
                    some = [
                        (record, classes.thing(record))
                        for record in choice.sample(all_ways(family, limits, 2), min(25, len(all_ways(family, limits, 2))))
                    ]
                    for (r, x), (s, y) in product(some, repeat=2):
                        self.assertIn(classes.ask(asked, x, y)[0], ("refused", due(asked, one(r, s))))
        self.assertGreater(min(found.values()), 80)

    def test_otherwise_beside_wrong_values(self):
        operators = Operators(SHOP, ("ware", "<", ("if", BELOW, "yes", "no")))
        for thing in (None, True, 0, "", "price", (), [], {}, SHOP, Order.by(SHOP, "price").key, Order.by(TIMES, "begin")):
            self.assert_raises(OtherFamily, lambda: operators.otherwise("<", thing))
            self.assert_raises(BadOperators, lambda: operators.otherwise("=", thing), part="=")
        price = Order.by(SHOP, "price")
        self.assertIsNone(operators.otherwise(sign="<", order=price))
        self.assertIsNone(operators.otherwise(">", price))
        self.assertIsNone(operators.otherwise("<=", price))
        self.assert_pair(SHOP, operators.otherwise("<", -price))


class MadeOfOrders(Case):
    def test_all_signs(self):
        for family, comparison in ORDERS:
            order = Order(family, comparison)
            entries = [
                (kind, sign, answers(comparison, sign)) for kind, bases, _ in family.kinds if not bases for sign in SIGNS
            ]
            operators = Operators(family, *entries)
            self.assertEqual(operators.by_less(), order)
            for sign in SIGNS:
                self.assertIsNone(operators.refused(sign))
                self.assertIsNone(operators.otherwise(sign, order))
            for r, s in product(some_records(family, (0, 1000), 2), repeat=2):
                for sign in SIGNS:
                    self.assertEqual(operators.ask(sign, r, s), due(sign, order(r, s)))

    def test_one_sign_and_its_reflected_one(self):
        for family, comparison in ORDERS:
            order = Order(family, comparison)
            tops = [kind for kind, bases, _ in family.kinds if not bases]
            for sign in SIGNS:
                operators = Operators(family, *[(kind, sign, answers(comparison, sign)) for kind in tops])
                for other in SIGNS:
                    if other in (sign, REFLECTED[sign]):
                        self.assertIsNone(operators.refused(other))
                        self.assertIsNone(operators.otherwise(other, order))
                    elif family.names:
                        self.assert_pair(family, operators.refused(other))
                        self.assertIsNone(operators.otherwise(other, order))
            less = Operators(family, *[(kind, "<", answers(comparison, "<")) for kind in tops])
            more = Operators(family, *[(kind, ">", answers(comparison, ">")) for kind in tops])
            self.assertEqual([less.by_less(), more.by_less()], [order, order])
            turned = Operators(family, *[(kind, "<", answers(comparison, ">")) for kind in tops])
            self.assertEqual(turned.by_less(), -order)
            if order != Order(family, "alike"):
                self.assert_pair(family, turned.otherwise("<", order))

    def test_heirs_that_answer_in_their_own_way(self):
        wares = ("ware", "<", ("if", BELOW, "yes", "no"))
        # Pens say that they are less than all other wares; but these are asked whether they are less than pens.
        pens = ("pen", "<", ("if", ("is", "b", "pen"), ("if", BELOW, "yes", "no"), "yes"))
        back = ("pen", ">", ("if", ("is", "b", "pen"), ("if", ABOVE, "yes", "no"), "no"))
        self.assertEqual(Operators(SHOP, wares).by_less(), Order.by(SHOP, "price"))
        self.assert_raises(NotOrder, lambda: Operators(SHOP, wares, pens).by_less())
        # By ">" pens are asked ahead of wares, but not ahead of books: those are no kind that pens are made from.
        error = self.assert_raises(NotOrder, lambda: Operators(SHOP, wares, pens, back).by_less())
        self.assertEqual({kind for kind, _ in error.records}, {"book", "pen"})
        books = ("book", "<", ("if", ("is", "b", "pen"), "no", ("if", BELOW, "yes", "no")))
        due_order = Order(SHOP, first(("is", "a", "pen"), by("price")))
        self.assertEqual(Operators(SHOP, wares, pens, back, books).by_less(), due_order)


class Kinds(Case):
    def test_no_kinds_and_no_entries(self):
        nothing = Family(())
        for operators in (Operators(nothing), Operators(Family((("x", "m"),)))):
            self.assertEqual([operators.refused(sign) for sign in SIGNS], [None] * 4)
            self.assertEqual(operators.by_less(), Order(operators.family, "alike"))
            self.assertIsNone(operators.otherwise("<", operators.by_less()))
        operators = Operators(SHOP)
        for sign in SIGNS:
            self.assert_pair(SHOP, operators.refused(sign))
            self.assertIsNone(operators.otherwise(sign, Order.by(SHOP, "price")))
        self.assert_pair(SHOP, (error := self.assert_raises(Refused, operators.by_less, sign="<"), error.one, error.other)[1:])

    def test_both_yes_and_both_no(self):
        yes = Operators(BARE, ("base", "<", "yes"))
        error = self.assert_raises(NotOrder, yes.by_less)
        self.assertEqual(len(error.records), 1)
        self.assertEqual(Operators(BARE, ("base", "<", "no")).by_less(), Order(BARE, "alike"))
        apart = ("if", ("and", ("is", "a", "left"), ("is", "b", "right")), "yes",
                 ("if", ("and", ("is", "a", "right"), ("is", "b", "left")), "yes", "no"))
        error = self.assert_raises(NotOrder, Operators(BARE, ("base", "<", apart)).by_less)
        self.assertEqual(len(error.records), 1 if error.records[0][0] == "both" else 2)

    def test_kinds_by_kinds(self):
        # Any order of kinds, told by entries of each of them.
        for row in permutations(BARE.names):
            ranks = {kind: at for at, kind in enumerate(row)}
            entries = []
            for kind in BARE.names:
                tree = "no"
                for other in BARE.names:
                    tree = ("if", ("is", "b", other), "yes" if ranks[kind] < ranks[other] else "no", tree)
                entries.append((kind, "<", tree))
                entries.append((kind, ">", swapped_words(tree, ranks, kind)))
            order = Operators(BARE, *entries).by_less()
            records = [(kind, ()) for kind in BARE.names]
            self.assertEqual(order.row(*records), tuple((kind, ()) for kind in row))


def swapped_words(tree, ranks, kind):
    """The same entry for the reflected sign."""
    tree = "no"
    for other in BARE.names:
        tree = ("if", ("is", "b", other), "yes" if ranks[kind] > ranks[other] else "no", tree)
    return tree


class Many(Case):
    # Three limits and two fields of one measure: 57 cells for each kind.
    FAMILY = Family((("x", "m"), ("y", "m"), ("z", "n")), ("k", (), ("x", "y")), ("l", (), ("z",)), ("o", (), ()))

    def test_too_many(self):
        reading = ("or", *[("less", ("a", "x"), 1000 * at) for at in range(5)], ("less", ("a", "y"), 0))
        program = ("if", reading, "yes", "no")
        many = 133 + 2
        operators = Operators(self.FAMILY, ("k", "<", program), ("l", "<=", "no"))
        for call in (
            lambda: operators.refused("<"),
            lambda: operators.refused(">"),
            operators.by_less,
            lambda: operators.otherwise("<", Order(self.FAMILY, "alike")),
            lambda: operators.otherwise(">", Order.by(self.FAMILY, "x")),
        ):
            self.assert_raises(TooMany, call, cells=many)
        # Signs read the programs of their own entries and of the reflected ones alone.
        self.assert_pair(self.FAMILY, operators.refused("<="))
        self.assert_pair(self.FAMILY, operators.otherwise(">=", Order.by(self.FAMILY, "z")))
        self.assert_raises(BadOperators, lambda: operators.otherwise("", Order(self.FAMILY, "alike")), part="")
        self.assert_raises(OtherFamily, lambda: operators.otherwise("<", Order(SHOP, "alike")))
        self.assertEqual(operators.ask("<", ("k", (-5, 3)), ("k", (9, 9))), "yes")
        # With the order together: the limits of it and of the programs.
        some = Operators(self.FAMILY, ("k", "<", ("if", ("or", under(0, "x"), under(1000, "x")), "yes", "no")))
        three = Order(self.FAMILY, first(under(3000, "y"), first(under(4000, "y"), first(under(5000, "y")))))
        self.assert_pair(self.FAMILY, some.refused("<"))
        self.assert_raises(TooMany, lambda: some.otherwise("<", three), cells=many)

    def test_just_a_hundred_cells(self):
        # 48 limits beside one value, and three kinds without values; six limits in each of eight programs.
        family = Family((("x", "m"),), ("k", (), ("x",)), *[(kind, (), ()) for kind in "opq"])
        limits = [1000 * at for at in range(48)]
        self.assertEqual(len(cells_of(family, (("k", "x"),), tuple(("m", limit) for limit in limits))), 100)
        places = list(product(family.names, ("<", ">")))
        choice = random.Random(80)
        for words in (("yes", "no"), ("no", "no"), ("other", "no"), ("no", "other")):
            entries = []
            for at, (kind, sign) in enumerate(places):
                who = "a" if (kind == "k") == (choice.random() < 0.7) else "b"
                tests = [("less", limit, (who, "x")) for limit in limits[6 * at : 6 * at + 6]]
                entries.append((kind, sign, ("if", ("and", tests[0], ("not", ("and", *tests[1:]))), *words)))
            operators, classes = Operators(family, *entries), Classes(family, entries)
            things = [classes.thing(("k", (value,))) for value in range(-500, 48500, 500)]
            things += [classes.thing((kind, ())) for kind in "opq"]
            pairs = list(product(things, repeat=2))
            refused = any(classes.ask("<", one, other)[0] == "refused" for one, other in pairs)
            self.assertEqual(operators.refused("<") is not None, refused)
            if refused:
                self.assert_raises(Refused, operators.by_less)
            elif words == ("no", "no"):
                self.assertEqual(operators.by_less(), Order(family, "alike"))
            else:
                self.assert_raises(NotOrder, operators.by_less)
            otherwise = operators.otherwise("<", Order(family, "alike"))
            self.assertEqual(otherwise is not None, any(classes.ask("<", *pair)[0] == "yes" for pair in pairs))

    def test_many_entries(self):
        # Twelve entries of ten tests each.
        family = Family((("x", "m"), ("w", "n")), *[(kind, bases, own) for kind, bases, own in (
            ("k", (), ("x",)), ("l", ("k",), ("w",)), ("o", ("k",), ()), ("p", ("l", "o"), ()), ("q", (), ("x", "w")), ("r", ("q",), ())
        )])
        choice = random.Random(79)
        tests = tests_of(family, "ab", (0,))
        for _ in range(15):
            entries = []
            for kind in family.names:
                for sign in ("<", ">"):
                    tree = choice.choice(("yes", "no"))
                    for _ in range(10):
                        tree = ("if", choice.choice(tests), choice.choice(ANSWERS), tree)
                    entries.append((kind, sign, tree))
            operators, classes = Operators(family, *entries), Classes(family, entries)
            records = operators.refused("<")
            if records is not None:
                things = [classes.thing(record) for record in records]
                self.assertEqual(classes.ask("<", *things)[0], "refused")
            else:
                self.assertRaises(NotOrder, operators.by_less)


class Turned(Case):
    def test_turned_orders(self):
        # What a sign answers for s and r, if it answers for r and s as an order says.
        for word, other in TURNED.items():
            for sign in SIGNS:
                self.assertEqual(due(sign, word), due(REFLECTED[sign], other))

    def test_orders_that_lack_a_field(self):
        comparison = by_known("cost", rest=by("price"))
        operators = Operators(SHOP, *[("ware", sign, answers(comparison, sign)) for sign in SIGNS])
        self.assertEqual(operators.by_less(), Order.by(SHOP, "cost", "price"))


if __name__ == "__main__":
    unittest.main()
