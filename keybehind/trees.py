"""Trees: what is said of two records, as comparisons tell it.

A tree is a word; or ("if", condition, yes, no) as in comparisons; or ("then", tree, rows) with a row (word, tree) for
each word at which the first tree can end, where it goes on with the second one. Its conditions are those on two
records, with one more test: ("kind", who, kind), the record is of just this kind.

*Spans* tell of each field of a record from which height to which one its value may lie, as `(low, high)`; if both are
one, it lies there. Only values of one measure are compared, so each measure has heights of its own.
"""

from keybehind.parsing import JOINTS

BACK = {"a": "b", "b": "a"}


def settled(chart, tree, one, other):
    """A tree, as it is left if the cells of both records are known: in each test a field of each record is left."""
    while not isinstance(tree, str) and tree[0] == "if":
        condition = _settled_condition(chart, tree[1], one, other)
        if not isinstance(condition, bool):
            yes = settled(chart, tree[2], one, other)
            no = settled(chart, tree[3], one, other)
            return yes if yes == no else ("if", condition, yes, no)
        tree = tree[2] if condition else tree[3]
    if isinstance(tree, str):
        return tree
    ahead = settled(chart, tree[1], one, other)
    if isinstance(ahead, str):
        return settled(chart, rest_behind(tree, ahead), one, other)
    return ("then", ahead, tuple([(word, settled(chart, rest, one, other)) for word, rest in tree[2]]))


def word_in(tree, spans, other_spans):
    """The word of a settled tree; or two fields, one of each record, whose values must be known first."""
    while not isinstance(tree, str):
        if tree[0] == "if":
            met = _met(tree[1], spans, other_spans)
            if isinstance(met, tuple):
                return met
            tree = tree[2] if met else tree[3]
        else:
            word = word_in(tree[1], spans, other_spans)
            if isinstance(word, tuple):
                return word
            tree = rest_behind(tree, word)
    return tree


def swapped(tree):
    """The tree that says of two records what a tree says of them in each other's places."""
    if isinstance(tree, str):
        return tree
    if tree[0] == "then":
        return ("then", swapped(tree[1]), tuple([(word, swapped(rest)) for word, rest in tree[2]]))
    return ("if", _swapped_condition(tree[1]), swapped(tree[2]), swapped(tree[3]))


def is_of_kind(family, test, kind):
    """Whether a test of the kind of a record is true for a kind."""
    return kind == test[2] if test[0] == "kind" else family.is_heir(kind, test[2])


def rest_behind(tree, ahead):
    """Where a tree goes on behind a word."""
    return [rest for word, rest in tree[2] if word == ahead][0]


def _swapped_condition(condition):
    word = condition[0]
    if word == "not" or word in JOINTS:
        return (word, *[_swapped_condition(part) for part in condition[1:]])
    if word in ("is", "kind"):
        return (word, BACK[condition[1]], condition[2])
    return (word, *[side if isinstance(side, int) else (BACK[side[0]], side[1]) for side in condition[1:]])


def _settled_condition(chart, condition, one, other):
    """A condition, as it is left if the cells are known; True or False if it is decided."""
    word = condition[0]
    if word == "not":
        part = _settled_condition(chart, condition[1], one, other)
        return (not part) if isinstance(part, bool) else ("not", part)
    if word not in JOINTS:
        return _settled_test(chart, condition, one, other)
    # The part that decides: a false one among those joined by "and", a true one among those joined by "or".
    deciding = word == "or"
    left = []
    for part in condition[1:]:
        part_left = _settled_condition(chart, part, one, other)
        if not isinstance(part_left, bool):
            left.append(part_left)
        elif part_left == deciding:
            return deciding
    if len(left) == 1:
        return left[0]
    return (word, *left) if left else not deciding


def _settled_test(chart, test, one, other):
    word, low, high = test
    if word in ("is", "kind"):
        return is_of_kind(chart.family, test, chart.cells[one if low == "a" else other][0])
    if isinstance(low, int):
        cell = one if high[0] == "a" else other
        return _met_beside_limit(chart, word, cell, high[1], low, True)
    cell = one if low[0] == "a" else other
    if isinstance(high, int):
        return _met_beside_limit(chart, word, cell, low[1], high, False)
    beside = one if high[0] == "a" else other
    if low[1] not in chart.places[cell] or high[1] not in chart.places[beside]:
        return False
    slot = chart.places[cell][low[1]]
    other_slot = chart.places[beside][high[1]]
    if low[0] == high[0]:
        return slot < other_slot if word == "less" else slot == other_slot
    zone = chart.zones[cell][slot]
    other_zone = chart.zones[beside][other_slot]
    if zone == other_zone and zone % 2 == 0:
        return test
    return zone < other_zone if word == "less" else zone == other_zone


def _met_beside_limit(chart, word, cell, field, limit, turned):
    """Whether a field and a limit, or turned the limit and the field, have a test."""
    if field not in chart.places[cell]:
        return False
    zone = chart.zones[cell][chart.places[cell][field]]
    mark = chart.marks[(chart.family.measure_of(field), limit)]
    if word == "same":
        return zone == mark
    return mark < zone if turned else zone < mark


def _met(condition, spans, other_spans):
    """Whether two records have a condition; or two fields, as above."""
    word = condition[0]
    if word == "not":
        met = _met(condition[1], spans, other_spans)
        return met if isinstance(met, tuple) else not met
    if word not in JOINTS:
        return _met_test(condition, spans, other_spans)
    deciding = word == "or"
    for part in condition[1:]:
        met = _met(part, spans, other_spans)
        if isinstance(met, tuple) or met == deciding:
            return met
    return not deciding


def _met_test(test, spans, other_spans):
    word, one, other = test
    turned = one[0] == "b"
    field, beside = (other[1], one[1]) if turned else (one[1], other[1])
    low, high = spans[field]
    other_low, other_high = other_spans[beside]
    if high < other_low:
        return word == "less" and not turned
    if low > other_high:
        return word == "less" and turned
    if low == high == other_low == other_high:
        return word == "same"
    return (field, beside)
