"""Trees: what is said of the records of two cells, with only those tests left that the cells do not decide.

A tree is a comparison in which each test is about one field of each record. *Spans* tell of each field of a record
from which height to which one its value may lie, as `(low, high)`; if both are one, it lies there. Only values of one
measure are compared, so each measure has heights of its own.
"""

from keybehind.parsing import JOINTS


def settled(chart, tree, who, cell):
    """A comparison, as it is left if the cell of one of its records is known."""
    if isinstance(tree, str):
        return tree
    condition = settled_condition(chart, tree[1], who, cell)
    if condition is True:
        return settled(chart, tree[2], who, cell)
    if condition is False:
        return settled(chart, tree[3], who, cell)
    yes = settled(chart, tree[2], who, cell)
    no = settled(chart, tree[3], who, cell)
    return yes if yes == no else ("if", condition, yes, no)


def settled_condition(chart, condition, who, cell):
    """A condition, as it is left if the cell of one of its records is known; True or False if it is decided."""
    word = condition[0]
    if word == "not":
        part = settled_condition(chart, condition[1], who, cell)
        return (not part) if isinstance(part, bool) else ("not", part)
    if word not in JOINTS:
        return _settled_test(chart, condition, who, cell)
    # The part that decides: a false one among those joined by "and", a true one among those joined by "or".
    deciding = word == "or"
    left = []
    for part in condition[1:]:
        part_left = settled_condition(chart, part, who, cell)
        if not isinstance(part_left, bool):
            left.append(part_left)
        elif part_left == deciding:
            return deciding
    return (word, *left) if left else not deciding


def word_in(tree, spans, other_spans):
    """The word of a tree; or two fields, one of each record, whose values must be known first."""
    while not isinstance(tree, str):
        met = _met(tree[1], spans, other_spans)
        if isinstance(met, tuple):
            return met
        tree = tree[2] if met else tree[3]
    return tree


def _settled_test(chart, test, who, cell):
    word, one, other = test
    if word == "is":
        return chart.family.is_heir(chart.cells[cell][0], other) if one == who else test
    read = [side for side in (one, other) if isinstance(side, tuple)]
    mine = [side[1] for side in read if side[0] == who]
    if not all([field in chart.places[cell] for field in mine]):
        return False
    if len(mine) < len(read) or not mine:
        return test
    measure = chart.family.measure_of(mine[0])
    low = _slot_of(chart, cell, measure, one)
    high = _slot_of(chart, cell, measure, other)
    return low < high if word == "less" else low == high


def _slot_of(chart, cell, measure, side):
    """In which slot of a cell a side of a test stands."""
    return chart.marks[cell][(measure, side)] if isinstance(side, int) else chart.places[cell][side[1]]


def _met(condition, spans, other_spans):
    """Whether two records have a condition; or two fields, as above."""
    word = condition[0]
    if word == "not":
        met = _met(condition[1], spans, other_spans)
        return met if isinstance(met, tuple) else not met
    if word not in JOINTS:
        return _met_test(condition, spans, other_spans)
    deciding = word == "or"
    for part in condition[1:]:
        met = _met(part, spans, other_spans)
        if isinstance(met, tuple) or met == deciding:
            return met
    return not deciding


def _met_test(test, spans, other_spans):
    word, one, other = test
    turned = one[0] == "b"
    field, beside = (other[1], one[1]) if turned else (one[1], other[1])
    low, high = spans[field]
    other_low, other_high = other_spans[beside]
    if high < other_low:
        return word == "less" and not turned
    if low > other_high:
        return word == "less" and turned
    if low == high == other_low == other_high:
        return word == "same"
    return (field, beside)
