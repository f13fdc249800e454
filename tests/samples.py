"""Conditions and comparisons for the tests, and what they say, told in other ways than the package does."""

from itertools import product

LIMITS = (0, 1000, -3000, 10 ** 39)


def tests_of(family, whos, limits=LIMITS):
    """All tests with these limits."""
    found = [("is", who, kind) for who in whos for kind in family.names]
    sides = [(who, field) for who in whos for field, _ in family.fields]
    measures = dict(family.fields)
    for word in ("less", "same"):
        found += [(word, x, y) for x, y in product(sides, sides) if measures[x[1]] == measures[y[1]]]
        found += [(word, side, limit) for side in sides for limit in limits]
        found += [(word, limit, side) for side in sides for limit in limits]
    return found


class Judge:
    """Tells conditions and comparisons by the list of all tests. (By their repr: True is not 1 there.)"""

    def __init__(self, family, whos):
        self.tests = {repr(test) for test in tests_of(family, whos)}

    def is_condition(self, thing):
        match thing:
            case ["not", part] if isinstance(thing, tuple):
                return self.is_condition(part)
            case ["and" | "or", *parts] if isinstance(thing, tuple):
                return all(self.is_condition(part) for part in parts)
        return repr(thing) in self.tests

    def is_comparison(self, thing):
        match thing:
            case "less" | "alike" | "greater":
                return True
            case ["if", condition, yes, no] if isinstance(thing, tuple):
                return self.is_condition(condition) and self.is_comparison(yes) and self.is_comparison(no)
        return False


def condition_from(choice, tests, deep):
    """Any condition with these tests, as a source of choices has it."""
    word = choice.choice(("test", "test", "not", "and", "or")) if deep else "test"
    if word == "test":
        return choice.choice(tests)
    many = 1 if word == "not" else choice.choice((0, 1, 2, 2, 3))
    return (word, *[condition_from(choice, tests, deep - 1) for _ in range(many)])


def tree_from(choice, tests, deep, words=("less", "alike", "greater")):
    """Any comparison with these tests, or a program with other words."""
    if deep == 0 or choice.random() < 0.2:
        return choice.choice(words)
    return ("if", condition_from(choice, tests, 2),
            tree_from(choice, tests, deep - 1, words), tree_from(choice, tests, deep - 1, words))


def object_of(family, record):
    """A record as an object of a class of its own, with its fields as attributes."""
    classes = {}
    for name, bases, own in family.kinds:
        classes[name] = type(name, tuple(classes[base] for base in bases), {"own": own})
    made = classes[record[0]]()
    fields = sorted({field for part in classes[record[0]].__mro__[:-1] for field in part.own})
    vars(made).update(zip(fields, record[1], strict=True))
    return made


def told(condition, a, b):
    """Whether two objects have a condition, with isinstance and getattr."""
    def side(x):
        return x if isinstance(x, int) else getattr({"a": a, "b": b}[x[0]], x[1], None)

    match condition:
        case ["is", who, kind]:
            names = [part.__name__ for part in type({"a": a, "b": b}[who]).__mro__]
            return kind in names
        case ["not", part]:
            return not told(part, a, b)
        case ["and", *parts]:
            return False not in [told(part, a, b) for part in parts]
        case ["or", *parts]:
            return True in [told(part, a, b) for part in parts]
        case [word, x, y]:
            x, y = side(x), side(y)
            if x is None or y is None:
                return False
            return x < y if word == "less" else x == y


def said(comparison, a, b):
    """What a comparison says of two objects."""
    if isinstance(comparison, str):
        return comparison
    return said(comparison[2 if told(comparison[1], a, b) else 3], a, b)
