"""Families: what is accepted, lines and heirs, equality, and texts."""

import re
import unittest
from itertools import permutations

from keybehind.errors import BadFamily, InvalidText, NoField, NoKind, NoLine
from keybehind.families import Family
from tests.helpers import ODD, SHOP, TIMES, WARES, WORDY, bent, bent_texts

FIELDS = (("cost", "money"), ("pages", "size"), ("price", "money"))


def told(*arguments):
    """The error that a family raises, with its attribute, or None."""
    try:
        Family(*arguments)
    except BadFamily as error:
        return "BadFamily", error.part
    except NoLine as error:
        return "NoLine", error.kind
    return None


def is_name(thing):
    return isinstance(thing, str) and re.fullmatch("[a-z]{1,8}", thing) is not None


def is_text(text):
    """Whether a string is the text of a family, told from the shape of its lines."""
    if text == "":
        return True
    lines = text.split("\n")
    pairs = [re.fullmatch("field ([a-z]{1,8}) [a-z]{1,8}", line) for line in lines]
    many = pairs.index(None) if None in pairs else len(lines)
    fields = [pair[1] for pair in pairs[:many]]
    if fields != sorted(set(fields)):
        return False
    classes = {}
    for line in lines[many:]:
        found = re.fullmatch("kind ([a-z]{1,8}) :((?: [a-z]{1,8})*) ;((?: [a-z]{1,8})*)", line)
        if not found or found[1] in classes:
            return False
        bases, own = found[2].split(), found[3].split()
        if not set(bases) <= set(classes) or not set(own) <= set(fields) or own != sorted(set(own)):
            return False
        try:
            classes[found[1]] = type(found[1], tuple(classes[base] for base in bases), {})
        except TypeError:
            return False
    return True


class Fields(unittest.TestCase):
    def test_what_is_none(self):
        for fields in (None, True, 3, "cost", [], {}, [("cost", "money")], (("cost", "money"), ["price", "money"]),
                       (("cost",),), (("cost", "money", "size"),), ("cost", "money"), ((), ()), (None,), ([],),
                       (("cost", "money"), ("cost", "money")), (("cost", "money"), ("cost", "size")),
                       (("", "money"),), (("cost", ""),), (("Cost", "money"),), (("cost", "mon ey"),),
                       (("ninechars", "money"),), (("cost", "ninechars"),), (("cost1", "money"),),
                       (("cost\n", "money"),), ((1, "money"),), (("cost", True),), (("cost", ["money"]),),
                       (({}, "money"),), ((("cost",), "money"),), "", (("cost", "money"), ("pri-ce", "money"))):
            self.assertEqual(told(fields), ("BadFamily", "fields"), fields)

    def test_bent(self):
        for fields in bent(FIELDS):
            right = (isinstance(fields, tuple)
                     and all(isinstance(pair, tuple) and len(pair) == 2 and all(map(is_name, pair)) for pair in fields)
                     and len({pair[0] for pair in fields}) == len(fields))
            self.assertEqual(told(fields), None if right else ("BadFamily", "fields"), fields)

    def test_names_of_one_to_eight_letters(self):
        family = Family((("z", "y"), ("abcdefgh", "zzzzzzzz")), ("abcdefgh", (), ("z", "abcdefgh")))
        self.assertEqual(family.fields, (("abcdefgh", "zzzzzzzz"), ("z", "y")))
        self.assertEqual(told(FIELDS, ("abcdefghi", (), ())), ("BadFamily", ("abcdefghi", (), ())))
        self.assertEqual(told(FIELDS, ("", (), ())), ("BadFamily", ("", (), ())))

    def test_any_order(self):
        for fields in permutations(FIELDS):
            family = Family(fields, WARES)
            self.assertEqual(family.fields, FIELDS)
            self.assertEqual(family.measures, ("money", "size"))

    def test_fields_come_ahead_of_kinds(self):
        self.assertEqual(told((("cost", 1),), None), ("BadFamily", "fields"))
        self.assertEqual(told(None, None), ("BadFamily", "fields"))


class Kinds(unittest.TestCase):
    def test_what_is_none(self):
        for kind in (None, False, 5, "pen", (), [], {}, ("pen",), ("pen", ()), ("pen", (), (), ()), ["pen", (), ()],
                     ("pen", [], ()), ("pen", (), []), ("pen", {}, ()), ("pen", (), {}), ("pen", None, ()),
                     ("pen", (), None), ("pen", "ware", ()), ("pen", (), "cost"), ("Pen", (), ()), (True, (), ()),
                     (["pen"], (), ()), ("ware", (), ()), ("pen", ("pen",), ()), ("pen", ("book",), ()),
                     ("pen", ("ware", "ware"), ()), ("pen", (), ("cost", "cost")), ("pen", (), ("money",)),
                     ("pen", (["ware"],), ()), ("pen", (), (["cost"],)), ("pen", (1,), ()), ("pen", (), (None,)),
                     ("pen", (), ({},)), ("pen", ("Ware",), ()), ("pen", (), ("cost", "none"))):
            self.assertEqual(told(FIELDS, WARES, kind), ("BadFamily", kind), kind)
            self.assertEqual(told(FIELDS, WARES, kind, WARES), ("BadFamily", kind), kind)

    def test_bent(self):
        def is_choice(thing, known):
            return isinstance(thing, tuple) and all(part in known for part in thing) and len(set(thing)) == len(thing)

        for kind in bent(("book", ("ware",), ("pages", "cost"))):
            right = (isinstance(kind, tuple) and len(kind) == 3 and is_name(kind[0]) and kind[0] != "ware"
                     and is_choice(kind[1], ["ware"]) and is_choice(kind[2], ["cost", "pages", "price"]))
            self.assertEqual(told(FIELDS, WARES, kind), None if right else ("BadFamily", kind), kind)

    def test_the_part_is_the_one_that_was_passed(self):
        for kind in ([1, [2]], {"a": []}, ("pen", [], {})):
            with self.assertRaises(BadFamily) as caught:
                Family(FIELDS, kind)
            self.assertIs(caught.exception.part, kind)

    def test_no_kinds_and_no_fields(self):
        family = Family(())
        self.assertEqual((family.fields, family.kinds, family.names, family.measures, family.text),
                         ((), (), (), (), ""))
        self.assertEqual(Family(FIELDS).names, ())
        self.assertEqual(Family((), ("pen", (), ())).fields_of("pen"), ())

    def test_kind_by_kind(self):
        square = (("a", (), ()), ("b", (), ()), ("c", ("a", "b"), ()), ("d", ("b", "a"), ()))
        self.assertEqual(told((), *square, ("e", ("c", "d"), ()), None), ("NoLine", "e"))
        self.assertEqual(told((), *square, None, ("e", ("c", "d"), ())), ("BadFamily", None))
        self.assertEqual(told((), *square, ("e", ("c", "d"), ("x",))), ("BadFamily", ("e", ("c", "d"), ("x",))))
        self.assertEqual(told((), *square, ("e", ("c", "a"), ()), ("f", ("a", "c"), ()), 3), ("NoLine", "f"))
        self.assertEqual(told((), *square, ("b", (), ()), 3), ("BadFamily", ("b", (), ())))

    def test_attributes(self):
        family = Family(FIELDS[::-1], ("ware", (), ("price", "cost")), ("book", ("ware",), ("price", "pages", "cost")))
        self.assertEqual(family.kinds, (("ware", (), ("cost", "price")), ("book", ("ware",), ("cost", "pages", "price"))))
        self.assertEqual(family.names, ("ware", "book"))
        self.assertEqual(family.fields_of("book"), ("cost", "pages", "price"))
        self.assertEqual(SHOP.names, ("ware", "book", "pen"))
        bases = (("a", (), ()), ("b", (), ()), ("c", ("b", "a"), ()))
        self.assertEqual(Family((), *bases).kinds, bases)

    def test_arguments_are_not_changed(self):
        kinds = [["pen", [], []]]
        self.assertRaises(BadFamily, Family, (), *kinds)
        self.assertEqual(kinds, [["pen", [], []]])


class Lines(unittest.TestCase):
    def assert_like_classes(self, rows):
        """Python's own classes tell which line is due, as far as there is one."""
        classes = {}
        for name, bases in rows:
            try:
                classes[name] = type(name, tuple(classes[base] for base in bases), {})
            except TypeError:
                self.assertEqual(told((), *[(kind, own, ()) for kind, own in rows]), ("NoLine", name))
                return
        family = Family((), *[(name, bases, ()) for name, bases in rows])
        for name, made in classes.items():
            line = tuple(part.__name__ for part in made.__mro__[:-1])
            self.assertEqual(family.line(name), line)
            for other in classes:
                self.assertIs(family.is_heir(name, other), issubclass(made, classes[other]))

    def test_all_families_of_five_kinds(self):
        def choices(names):
            return [row for many in range(len(names) + 1) for row in permutations(names, many)]

        lacking = 0
        for b in choices("a"):
            for c in choices("ab"):
                for d in choices("abc"):
                    for e in choices("abcd"):
                        self.assert_like_classes([("a", ()), ("b", b), ("c", c), ("d", d), ("e", e)])
                        lacking += told((), ("a", (), ()), ("b", b, ()), ("c", c, ()), ("d", d, ())) is not None
        self.assertGreater(lacking, 100)

    def test_diamonds_and_unlike_orders(self):
        diamond = [("top", ()), ("left", ("top",)), ("right", ("top",))]
        self.assert_like_classes(diamond + [("low", ("left", "right"))])
        self.assert_like_classes(diamond + [("low", ("right", "left")), ("deep", ("low", "left"))])
        self.assert_like_classes(diamond + [("low", ("right", "left")), ("deep", ("left", "low"))])
        self.assert_like_classes(diamond + [("low", ("left", "top"))])
        self.assert_like_classes(diamond + [("low", ("top", "left"))])
        self.assert_like_classes(diamond + [("low", ("left", "right")), ("mid", ("right",)), ("end", ("low", "mid"))])

    def test_fields_come_from_the_whole_line(self):
        family = Family((("u", "m"), ("v", "m"), ("w", "n"), ("x", "n")), ("top", (), ("x",)),
                        ("left", ("top",), ("w", "u")), ("right", ("top",), ("w",)), ("low", ("right", "left"), ("v", "u")))
        self.assertEqual(family.line("low"), ("low", "right", "left", "top"))
        self.assertEqual([family.fields_of(kind) for kind in family.names],
                         [("x",), ("u", "w", "x"), ("w", "x"), ("u", "v", "w", "x")])


class Questions(unittest.TestCase):
    def test_answers(self):
        self.assertEqual([SHOP.fields_of(kind) for kind in SHOP.names],
                         [("price",), ("pages", "price"), ("cost", "price")])
        self.assertEqual([SHOP.measure_of(field) for field in ("cost", "pages", "price")], ["money", "size", "money"])
        self.assertIs(SHOP.is_heir("ware", "pen"), False)
        self.assertIs(SHOP.is_heir("pen", "pen"), True)
        self.assertIs(SHOP.is_heir(other="book", kind="pen"), False)
        self.assertEqual(SHOP.line(kind="ware"), ("ware",))
        self.assertEqual(SHOP.fields_of(kind="ware"), ("price",))
        self.assertEqual(SHOP.measure_of(field="cost"), "money")

    def test_no_kind(self):
        for thing in (*ODD, "cost", "money", "fields", {"ware": 1}, ["ware"]):
            if isinstance(thing, str) and thing == "ware":
                continue
            for ask in (SHOP.line, SHOP.fields_of, lambda kind: SHOP.is_heir(kind, "pen"),
                        lambda kind: SHOP.is_heir("pen", kind), lambda kind: SHOP.is_heir(kind, None)):
                with self.assertRaises(NoKind) as caught:
                    ask(thing)
                self.assertIs(caught.exception.kind, thing)

    def test_no_field(self):
        for thing in (*ODD, "money", "pen", {"price": 1}, ["price"]):
            if isinstance(thing, str) and thing == "price":
                continue
            with self.assertRaises(NoField) as caught:
                SHOP.measure_of(thing)
            self.assertIs(caught.exception.field, thing)


class Equality(unittest.TestCase):
    def test_equal(self):
        one = Family(FIELDS, ("ware", (), ("price", "cost")), ("book", ("ware",), ()))
        other = Family(FIELDS[::-1], ("ware", (), ("cost", "price")), ("book", ("ware",), ()))
        self.assertTrue(one == other)
        self.assertFalse(one != other)
        self.assertTrue(Family(()) == Family(()))

    def test_not_equal(self):
        base = (("a", (), ()), ("b", (), ()), ("c", ("a", "b"), ()))
        one = Family(FIELDS, *base)
        for other in (Family(FIELDS), Family(FIELDS[1:], *base), Family(FIELDS, base[1], base[0], base[2]),
                      Family(FIELDS, *base[:2], ("c", ("b", "a"), ())), Family(FIELDS, *base[:2], ("c", ("a",), ())),
                      Family(FIELDS, *base[:2], ("c", ("a", "b"), ("cost",))), Family(FIELDS, *base[:2], ("d", ("a", "b"), ())),
                      Family((("cost", "size"), *FIELDS[1:]), *base)):
            self.assertFalse(one == other)
            self.assertTrue(one != other)

    def test_equal_to_nothing_else(self):
        for thing in (*ODD, SHOP.text, SHOP.kinds, SHOP.fields, (SHOP.fields, SHOP.kinds), Family, NoKind("pen")):
            self.assertIs(SHOP == thing, False)
            self.assertIs(thing == SHOP, False)
            self.assertIs(SHOP != thing, True)


class Texts(unittest.TestCase):
    def test_text(self):
        self.assertEqual(SHOP.text, "field cost money\nfield pages size\nfield price money\nkind ware : ; price\n"
                                    "kind book : ware ; pages\nkind pen : ware ; cost")
        self.assertEqual(Family((), ("a", (), ()), ("b", (), ()), ("c", ("b", "a"), ())).text,
                         "kind a : ;\nkind b : ;\nkind c : b a ;")
        self.assertEqual(Family(FIELDS[::-1], ("a", (), ("price", "cost"))).text,
                         "field cost money\nfield pages size\nfield price money\nkind a : ; cost price")
        self.assertEqual(Family((("b", "c"),)).text, "field b c")

    def test_the_way_back(self):
        words = (("field", "kind"), ("kind", "field"))
        for family in (SHOP, TIMES, WORDY, Family(()), Family(FIELDS), Family(words, ("kind", (), ("kind", "field")))):
            again = Family.read(family.text)
            self.assertIsInstance(again, Family)
            self.assertTrue(again == family)
            self.assertEqual(again.text, family.text)
        self.assertTrue(Family.read(text="") == Family(()))

    def test_values_that_are_no_strings(self):
        for thing in (*[thing for thing in ODD if thing != ""], SHOP, Family, [SHOP.text], (SHOP.text,), b""):
            self.assertRaises(InvalidText, Family.read, thing)

    def test_wrong_texts(self):
        lines = SHOP.text.split("\n")
        for text in ("\n", " ", "field", "kind", "kind x", "kind x :", "kind x : y", "kind x ;", "kind x ; :", "kind ; :",
                     "field a", "field a b c", "kind x : ; ;", "kind x : x ;", "kind x : y ;", "kind x : ; y", "kind x :;",
                     "kind x: ;", "kind x : ; ", " kind x : ;", "kind  x : ;", "kind x : ;\n", "\nkind x : ;",
                     "kind x : ;\n\nkind y : ;", "kind x : ;\nkind x : ;", "field b m\nfield a m", "field a m\nfield a m",
                     "field a m\nfield a n", "kind x : ;\nfield a m", "field a m\nfield b m\nkind x : ; b a",
                     "field a m\nkind x : ; a a", "kind a : ;\nkind b : a ;\nkind c : a b ;", "Kind x : ;", "kind X : ;",
                     "field a m\rkind x : ;", "field a m kind x : ;", "kinds x : ;", "kind ninechars : ;", "kind x , ;",
                     "\n".join(lines[::-1]), "\n".join(lines[:3] + lines[4:]), "\n".join(lines + lines[-1:]),
                     " ".join(lines), SHOP.text + "\n", SHOP.text + " ", "\n" * 4000, " " * 4000, "kind " * 800):
            self.assertRaises(InvalidText, Family.read, text)

    def test_bent_at_any_place(self):
        read = 0
        for family in (SHOP, Family((("a", "m"), ("b", "m")), ("x", (), ("a", "b")), ("y", ("x",), ()))):
            for text in bent_texts(family.text, "a bxz:;A\n"):
                if is_text(text):
                    self.assertEqual(Family.read(text).text, text)
                    read += 1
                else:
                    self.assertRaises(InvalidText, Family.read, text)
        self.assertGreater(read, 100)

    def test_every_family_nearby_is_read(self):
        family = Family.read(SHOP.text.replace("size", "money").replace("kind pen : ware ; cost", "kind inks : book ware ;"))
        self.assertEqual(family.kinds[2], ("inks", ("book", "ware"), ()))
        self.assertEqual(family.measures, ("money",))


if __name__ == "__main__":
    unittest.main()
