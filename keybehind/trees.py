"""Trees: what is said of two records, as comparisons tell it.

A tree is a word; or ("if", condition, yes, no) as in comparisons; or ("then", tree, rows) with a row (word, tree) for
each word at which the first tree can end, where it goes on with the second one. Its conditions are those on two
records, with one more test: ("kind", who, kinds), the record is of just one of these kinds.

What is left of a tree if the cells of both records are known has only tests with a field of each record.

*Spans* tell of each field of a record from which height to which one its value may lie, as `(low, high)`; if both are
one, it lies there. Only values of one measure are compared, so each measure has heights of its own.
"""

from keybehind.parsing import JOINTS

BACK = {"a": "b", "b": "a"}


def settled(tree, one, other):
    """What is left of a noted tree if the cells of both records are known."""
    while not isinstance(tree, str) and tree[0] == "if":
        met = _told(tree[1], one, other)
        if met is None:
            yes = settled(tree[2], one, other)
            no = settled(tree[3], one, other)
            return yes if yes == no else ("if", _left(tree[1], one, other), yes, no)
        tree = tree[2] if met else tree[3]
    if isinstance(tree, str):
        return tree
    ahead = settled(tree[1], one, other)
    if isinstance(ahead, str):
        return settled(rest_behind(tree, ahead), one, other)
    return ("then", ahead, tuple([(word, settled(rest, one, other)) for word, rest in tree[2]]))


def word_in(tree, spans, other_spans):
    """The word of a settled tree; or two fields, one of each record, whose values must be known first."""
    while not isinstance(tree, str):
        if tree[0] == "if":
            met = _met(tree[1], spans, other_spans)
            if isinstance(met, tuple):
                return met
            tree = tree[2] if met else tree[3]
        else:
            word = word_in(tree[1], spans, other_spans)
            if isinstance(word, tuple):
                return word
            tree = rest_behind(tree, word)
    return tree


def swapped(tree):
    """The tree that says of two records what a tree says of them in each other's places."""
    if isinstance(tree, str):
        return tree
    if tree[0] == "then":
        return ("then", swapped(tree[1]), tuple([(word, swapped(rest)) for word, rest in tree[2]]))
    return ("if", _swapped_condition(tree[1]), swapped(tree[2]), swapped(tree[3]))


def is_of_kind(family, test, kind):
    """Whether a test of the kind of a record is true for a kind."""
    return kind in test[2] if test[0] == "kind" else family.is_heir(kind, test[2])


def rest_behind(tree, ahead):
    """Where a tree goes on behind a word."""
    return [rest for word, rest in tree[2] if word == ahead][0]


def _swapped_condition(condition):
    word = condition[0]
    if word == "not" or word in JOINTS:
        return (word, *[_swapped_condition(part) for part in condition[1:]])
    if word in ("is", "kind"):
        return (word, BACK[condition[1]], condition[2])
    return (word, *[side if isinstance(side, int) else (BACK[side[0]], side[1]) for side in condition[1:]])


def _told(note, one, other):
    """Whether two records have a condition, if their cells tell that; otherwise None."""
    who, yes, no, _, _ = note
    if who:
        return yes >> (one if who == "a" else other) & 1 == 1
    if yes[one] >> other & 1:
        return True
    return False if no[one] >> other & 1 else None


def _left(note, one, other):
    """What is left of a condition of which the cells of two records do not tell whether they have it."""
    _, _, _, condition, parts = note
    if not parts:
        return condition
    left = [_left(part, one, other) for part in parts if _told(part, one, other) is None]
    # One alone is all that counts of several that are joined.
    return left[0] if len(left) == 1 and condition[0] in JOINTS else (condition[0], *left)


def _met(condition, spans, other_spans):
    """Whether two records have a condition; or two fields, as above."""
    word = condition[0]
    if word == "not":
        met = _met(condition[1], spans, other_spans)
        return met if isinstance(met, tuple) else not met
    if word not in JOINTS:
        return _met_test(condition, spans, other_spans)
    deciding = word == "or"
    for part in condition[1:]:
        met = _met(part, spans, other_spans)
        if isinstance(met, tuple) or met == deciding:
            return met
    return not deciding


def _met_test(test, spans, other_spans):
    word, one, other = test
    turned = one[0] == "b"
    field, beside = (other[1], one[1]) if turned else (one[1], other[1])
    low, high = spans[field]
    other_low, other_high = other_spans[beside]
    if high < other_low:
        return word == "less" and not turned
    if low > other_high:
        return word == "less" and turned
    if low == high == other_low == other_high:
        return word == "same"
    return (field, beside)
