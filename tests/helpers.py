"""Families for the tests, values that are bent at any place, and a check of errors."""

import unittest

from keybehind.families import Family

WARES = ("ware", (), ("price",))
SHOP = Family((("cost", "money"), ("pages", "size"), ("price", "money")),
              WARES, ("book", ("ware",), ("pages",)), ("pen", ("ware",), ("cost",)))
TIMES = Family((("begin", "time"), ("end", "time")), ("span", (), ("begin", "end")))
# Kinds and fields with the names of words that stand in texts.
WORDY = Family((("a", "b"), ("if", "not"), ("is", "b"), ("not", "not"), ("or", "b"), ("self", "kind")),
               ("and", (), ("is", "not")), ("always", (), ("if", "or")), ("not", ("and", "always"), ("a",)),
               ("then", (), ()), ("less", ("then",), ("self",)), ("a", ("not", "less"), ()))

# Values of all sorts, for places where another value is due.
ODD = (None, True, False, 0, 1, -1, 7, 1000, -3000, 10 ** 39, "", "a", "b", "c", "ware", "price", "nothing", "and",
       "price ", "Price", "priceless", (), ("a",), ("a", "b"), ("a", "price"), ("b", "price"), [], ["a", "price"],
       {}, {"a": "price"}, (None,), ([],), ({},), ("and",), ["and"], (("and",),), "x" * 4000, "\n")


def bent(thing, odd=ODD):
    """All values that come from a value if it is bent at one place."""
    yield from odd
    if isinstance(thing, str):
        yield from (thing + "z", thing.upper(), thing[:-1], thing + " ", "\n" + thing)
    if isinstance(thing, tuple):
        yield list(thing)
        yield thing + ("less",)
        yield (thing,)
        yield {part: part for part in thing if isinstance(part, str)}
        for at, part in enumerate(thing):
            yield thing[:at] + thing[at + 1:]
            yield thing[:at] + (part, part) + thing[at + 1:]
            for other in bent(part, odd):
                yield thing[:at] + (other,) + thing[at + 1:]


def bent_texts(text, letters):
    """All texts that come from a text if it is bent at one place."""
    words = text.split(" ")
    for at in range(len(words)):
        yield " ".join(words[:at] + words[at + 1:])
        yield " ".join(words[:at] + [words[at]] + words[at:])
        yield " ".join(words[:at] + words[at:at + 2][::-1] + words[at + 2:])
    for at in range(len(text) + 1):
        yield text[:at]
        yield text[at:]
        yield text[:at] + text[at + 1:]
        for letter in letters:
            yield text[:at] + letter + text[at:]
            yield text[:at] + letter + text[at + 1:]


def deep(inner, many, word="not"):
    """A value nested so many times deep."""
    for _ in range(many):
        inner = (word, inner)
    return inner


class Case(unittest.TestCase):
    def assert_raises(self, error, call, **attributes):
        with self.assertRaises(error) as caught:
            call()
        self.assertIs(type(caught.exception), error)
        for name, value in attributes.items():
            self.assertEqual(getattr(caught.exception, name), value)
            self.assertEqual(type(getattr(caught.exception, name)), type(value))
        return caught.exception
