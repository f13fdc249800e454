"""Comparisons for the tests: orders, and some that are none."""

from tests.helpers import SHOP, TIMES
from tests.reference import BARE, MIXED, PAIRS, SHELVES, SINGLE, TRIPLE, UNEVEN
from tests.samples import condition_from

BACK = {"a": "b", "b": "a"}


def swapped(thing):
    """A condition or comparison with the two records in each other's places; the words stay."""
    if not isinstance(thing, tuple):
        return thing
    if thing and thing[0] in BACK:
        return (BACK[thing[0]], *thing[1:])
    if thing[0] == "is":
        return ("is", BACK[thing[1]], thing[2])
    return tuple(swapped(part) for part in thing)


def first(condition, rest="alike"):
    """Records that have a condition are less than those that do not, then the rest."""
    other = swapped(condition)
    return (
        "if",
        ("and", condition, ("not", other)),
        "less",
        ("if", ("and", other, ("not", condition)), "greater", rest),
    )


def where(condition, yes, no):
    """One comparison of two records that both have a condition, another one of all others."""
    return ("if", ("and", condition, swapped(condition)), yes, no)


def apart(condition, yes, no):
    """Records that have a condition first, compared by one comparison; the others by another one."""
    return first(condition, where(condition, yes, no))


def by(*names, rest="alike"):
    """By fields, with "-" ahead of those of which the greater value comes first; a comparison of values alone."""
    tree = rest
    for name in names[::-1]:
        field = name.removeprefix("-")
        less, greater = ("less", ("a", field), ("b", field)), ("less", ("b", field), ("a", field))
        if name != field:
            less, greater = greater, less
        tree = ("if", less, "less", ("if", greater, "greater", tree))
    return tree


def has(field, who="a"):
    return ("same", (who, field), (who, field))


def by_known(*names, rest="alike"):
    """By fields, those without the field last."""
    tree = rest
    for name in names[::-1]:
        tree = first(has(name.removeprefix("-")), by(name, rest=tree))
    return tree


def under(limit, field):
    return ("less", ("a", field), limit)


def over(limit, field):
    return ("less", limit, ("a", field))


def between(low, high, field):
    return ("and", over(low, field), under(high, field))


# What is flat by its height, what is long by its length, both beside each other; all others behind them.
WOVEN = (
    "if",
    ("and", ("is", "a", "flat"), ("is", "b", "long")),
    (
        "if",
        ("less", ("a", "height"), ("b", "length")),
        "less",
        ("if", ("less", ("b", "length"), ("a", "height")), "greater", "alike"),
    ),
    (
        "if",
        ("and", ("is", "a", "long"), ("is", "b", "flat")),
        (
            "if",
            ("less", ("a", "length"), ("b", "height")),
            "less",
            ("if", ("less", ("b", "height"), ("a", "length")), "greater", "alike"),
        ),
        (
            "if",
            ("and", ("is", "a", "flat"), ("is", "b", "flat")),
            by("height"),
            where(("is", "a", "long"), by("length"), first(("or", ("is", "a", "flat"), ("is", "a", "long")))),
        ),
    ),
)
A_LOW, B_LOW, A_HIGH, B_HIGH = ("a", "low"), ("b", "low"), ("a", "high"), ("b", "high")
A_UPRIGHT = ("less", A_LOW, A_HIGH)
# By the greater one of two values, whichever it is.
GREATER_SIDE = (
    "if",
    (
        "and",
        ("or", ("less", A_HIGH, B_HIGH), ("less", A_HIGH, B_LOW)),
        ("or", ("less", A_LOW, B_HIGH), ("less", A_LOW, B_LOW)),
    ),
    "less",
    (
        "if",
        (
            "and",
            ("or", ("less", B_HIGH, A_HIGH), ("less", B_HIGH, A_LOW)),
            ("or", ("less", B_LOW, A_HIGH), ("less", B_LOW, A_LOW)),
        ),
        "greater",
        "alike",
    ),
)

ORDERS = (
    (BARE, "alike"),
    (BARE, first(("is", "a", "left"))),
    (BARE, first(("is", "a", "left"), first(("is", "a", "right")))),
    (BARE, apart(("is", "a", "left"), first(("is", "a", "both")), first(("is", "a", "right")))),
    (SINGLE, by("price")),
    (SINGLE, by("-price")),
    (SINGLE, first(under(0, "price"))),
    (SINGLE, first(over(1000, "price"), by("price"))),
    (SINGLE, first(under(0, "price"), by("price"))),
    (SINGLE, first(under(0, "price"), by("-price"))),
    (SINGLE, apart(("is", "a", "pen"), by("price"), by("-price"))),
    (SINGLE, by("price", rest=first(("is", "a", "gift")))),
    (SINGLE, apart(("same", ("a", "price"), 0), first(("is", "a", "book")), by("price"))),
    (SINGLE, where(between(0, 1000, "price"), "alike", by("price"))),
    (SINGLE, where(between(0, 2000, "price"), by("-price"), by("price"))),
    (SINGLE, apart(under(0, "price"), by("price"), apart(("is", "a", "book"), "alike", by("-price")))),
    (SHOP, by("price")),
    (SHOP, by("-price", rest=by_known("cost"))),
    (SHOP, by_known("cost", "-pages", "price")),
    (SHOP, apart(("is", "a", "pen"), by("cost", "-price"), by("price", rest=by_known("pages")))),
    (SHOP, by_known("pages", rest=first(("is", "a", "pen"), by_known("cost")))),
    (TIMES, by("begin", "end")),
    (TIMES, by("begin", "-end")),
    (TIMES, by("-end", "begin")),
    (TIMES, by("end")),
    (TIMES, first(("less", ("a", "begin"), ("a", "end")), by("end"))),
    (TIMES, first(("same", ("a", "begin"), ("a", "end")))),
    (TIMES, apart(("less", ("a", "begin"), ("a", "end")), by("begin", "end"), by("end", "-begin"))),
    (TIMES, apart(under(0, "begin"), by("end"), by("-begin"))),
    (TIMES, first(between(0, 1000, "end"), by("begin", "-end"))),
    (TIMES, apart(("less", ("a", "begin"), ("a", "end")), by("begin", rest=first(under(0, "end"))), by("begin"))),
    (PAIRS, GREATER_SIDE),
    (PAIRS, ("if", GREATER_SIDE[1], "less", ("if", GREATER_SIDE[3][1], "greater", by("low")))),
    (PAIRS, apart(A_UPRIGHT, by("high"), by("high"))),
    (PAIRS, apart(A_UPRIGHT, by("high", "-low"), by("low", "-high"))),
    (MIXED, by("age", "-size")),
    (MIXED, apart(under(0, "age"), by("age", "size"), by("-size", "age"))),
    (MIXED, first(over(0, "age"), first(under(1000, "size"), by("size")))),
    (UNEVEN, by("rank", rest=by_known("depth"))),
    (UNEVEN, by("-rank", rest=first(("is", "a", "queen"), by_known("depth")))),
    (UNEVEN, first(under(0, "rank"), by_known("-depth", "rank"))),
    (UNEVEN, where(over(0, "rank"), by("-rank", rest=by_known("depth")), by("rank"))),
    (SHELVES, WOVEN),
    (SHELVES, by_known("length", "rank")),
    (SHELVES, first(("is", "a", "row"), by_known("height", "rank"))),
    (SHELVES, apart(("is", "a", "thing"), by_known("-height", "length"), by("-rank"))),
)

BELOW, ABOVE = ("less", ("a", "price"), ("b", "price")), ("less", ("b", "price"), ("a", "price"))
OVERLAP = (
    "if",
    ("less", ("a", "end"), ("b", "begin")),
    "less",
    ("if", ("less", ("b", "end"), ("a", "begin")), "greater", "alike"),
)
# Two of three values decide.
TWO_LESS = (
    "or",
    ("and", ("less", ("a", "x"), ("b", "x")), ("less", ("a", "y"), ("b", "y"))),
    ("and", ("less", ("a", "x"), ("b", "x")), ("less", ("a", "z"), ("b", "z"))),
    ("and", ("less", ("a", "y"), ("b", "y")), ("less", ("a", "z"), ("b", "z"))),
)
MOST = ("if", TWO_LESS, "less", ("if", swapped(TWO_LESS), "greater", "alike"))
# In a ring: each kind is less than the next one, the last one less than the first one.
RING = (
    "if",
    ("and", ("is", "a", "both"), ("is", "b", "both")),
    "alike",
    (
        "if",
        (
            "or",
            ("and", ("is", "a", "both"), ("is", "b", "left")),
            (
                "and",
                ("is", "a", "left"),
                ("not", ("is", "a", "both")),
                ("is", "b", "right"),
                ("not", ("is", "b", "both")),
            ),
            ("and", ("is", "a", "right"), ("not", ("is", "a", "both")), ("is", "b", "both")),
        ),
        "less",
        (
            "if",
            (
                "or",
                ("and", ("is", "b", "both"), ("is", "a", "left")),
                (
                    "and",
                    ("is", "b", "left"),
                    ("not", ("is", "b", "both")),
                    ("is", "a", "right"),
                    ("not", ("is", "a", "both")),
                ),
                ("and", ("is", "b", "right"), ("not", ("is", "b", "both")), ("is", "a", "both")),
            ),
            "greater",
            "alike",
        ),
    ),
)

BROKEN = (
    (1, SHOP, "less"),
    (1, SHOP, "greater"),
    (1, BARE, ("if", ("is", "a", "both"), "less", "alike")),
    (1, SINGLE, ("if", BELOW, "less", "greater")),
    (1, TIMES, ("if", ("less", ("a", "begin"), ("b", "end")), "less", "alike")),
    (1, SINGLE, ("if", under(0, "price"), "greater", "alike")),
    (2, BARE, ("if", ("and", ("is", "a", "left"), ("not", ("is", "b", "left"))), "less", "alike")),
    (2, SINGLE, ("if", BELOW, "less", "alike")),
    (2, SINGLE, ("if", ("or", BELOW, ABOVE), "greater", "alike")),
    (2, SHOP, ("if", BELOW, "less", ("if", ABOVE, "less", "alike"))),
    (
        2,
        TIMES,
        (
            "if",
            ("less", ("a", "begin"), ("b", "begin")),
            "alike",
            ("if", ("less", ("b", "begin"), ("a", "begin")), "greater", "alike"),
        ),
    ),
    (3, TIMES, ("if", ("less", ("a", "begin"), ("a", "end")), OVERLAP, "alike")),
    (3, SHOP, by("cost")),
    (3, SHOP, by("pages", rest=by("price"))),
    (3, TRIPLE, MOST),
    (3, BARE, RING),
    (3, SINGLE, where(("is", "a", "pen"), by("-price"), by("price"))),
    (3, SINGLE, where(under(0, "price"), by("-price"), "alike")),
    (
        3,
        MIXED,
        (
            "if",
            ("and", ("less", ("a", "age"), ("b", "age")), ("less", ("a", "size"), ("b", "size"))),
            "less",
            (
                "if",
                ("and", ("less", ("b", "age"), ("a", "age")), ("less", ("b", "size"), ("a", "size"))),
                "greater",
                "alike",
            ),
        ),
    ),
    (3, PAIRS, where(A_UPRIGHT, by("high"), by("low"))),
    (
        3,
        SINGLE,
        apart(
            ("and", ("is", "a", "pen"), under(0, "price")),
            by("price"),
            where(("is", "a", "gift"), "alike", first(("is", "a", "book"), by("price"))),
        ),
    ),
)


def ordered_from(choice, tests, single_tests, names, deep):
    """Any comparison of which each part that goes deeper is turned if the records are; many of them are orders."""
    if deep == 0:
        return "alike"
    rest = ordered_from(choice, tests, single_tests, names, deep - 1)
    way = choice.random()
    if way < 0.35 and names:
        return by(choice.choice(("", "-")) + choice.choice(names), rest=rest)
    condition = condition_from(choice, single_tests if way < 0.85 else tests, 1)
    if way < 0.6:
        return first(condition, rest)
    yes = ordered_from(choice, tests, single_tests, names, deep - 1)
    return where(condition, yes, rest) if way < 0.8 else apart(condition, yes, rest)
