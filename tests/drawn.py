"""Families and comparisons drawn at random: of few kinds, with several fields of one measure."""

from keybehind.families import Family
from tests.comparisons import ordered_from, swapped
from tests.reference import TURNED
from tests.samples import condition_from, tests_of, tree_from

LIMITS = ((), (), (0,), (0, 1000))
WORDS = ("less", "alike", "greater")


def any_family(choice):
    """One to three kinds, two or three fields of one measure, sometimes one of another one."""
    fields = [(name, "m") for name in "xyz"[: choice.choice((2, 2, 2, 3))]]
    if choice.random() < 0.2:
        fields.append(("w", "n"))
    kinds = []
    for name in "klo"[: choice.choice((1, 1, 2, 3))]:
        own = sorted(choice.sample([field for field, _ in fields], choice.randint(0 if kinds else 1, len(fields))))
        bases = (kinds[0][0],) if kinds and choice.random() < 0.4 else ()
        kinds.append((name, bases, tuple(own)))
    return Family(tuple(fields), *kinds)


def any_comparison(choice, family, limits):
    """Any comparison: words put anywhere, turned with the records but for some place, or an order that is changed."""
    tests, single = tests_of(family, "ab", limits), tests_of(family, "a", limits)
    names = [field for field, _ in family.fields]
    way = choice.random()
    if way < 0.25:
        return tree_from(choice, tests, choice.randint(1, 4))
    if way < 0.5:
        condition = condition_from(choice, tests, 2)
        base = ordered_from(choice, tests, single, names, choice.randint(0, 3))
        part = tree_from(choice, tests, choice.randint(0, 2))
        other = ("if", swapped(condition), turned(part), base)
        return ("if", condition, ("if", swapped(condition), base, part), other)
    if way < 0.8:
        return bent_somewhere(choice, ordered_from(choice, tests, single, names, choice.randint(1, 3)), tests)
    return ordered_from(choice, tests, single, names, choice.randint(1, 4))


def turned(comparison):
    """What a comparison says of two records in each other's places, turned round."""
    if isinstance(comparison, str):
        return TURNED[comparison]
    return ("if", swapped(comparison[1]), turned(comparison[2]), turned(comparison[3]))


def bent_somewhere(choice, comparison, tests):
    """A comparison with another word or another condition at one place."""
    if isinstance(comparison, str):
        if choice.random() < 0.5:
            return choice.choice(WORDS)
        return ("if", condition_from(choice, tests, 2), choice.choice(WORDS), comparison)
    at = choice.choice((1, 2, 3, 3))
    if at > 1:
        return (*comparison[:at], bent_somewhere(choice, comparison[at], tests), *comparison[at + 1 :])
    other = condition_from(choice, tests, 2)
    return ("if", other if choice.random() < 0.5 else ("and", comparison[1], other), *comparison[2:])
