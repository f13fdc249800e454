"""Findings: what was told of comparisons and orders, as tuples that can be checked."""

from keybehind.basics import is_row, is_whole
from keybehind.comparing import NOT_LESS, OPPOSITE, UNLIKE
from keybehind.conditions import holds, is_comparison, is_condition
from keybehind.errors import TooMany
from keybehind.families import Family
from keybehind.judging import broken_holds, key_holds
from keybehind.keys import is_normal
from keybehind.orders import Order, is_order_of
from keybehind.runs import obstacle


def finding_holds(thing):
    """Whether a value is a finding, its parts being valid, and true."""
    if not isinstance(thing, tuple) or not thing or not isinstance(thing[0], str):
        return False
    try:
        return _is_true(thing)
    except TooMany:
        return False


def _is_true(thing):
    word = thing[0]
    if word in ("order", "broken"):
        return is_row(thing, 4) and _is_judged(word, thing[1], thing[2], thing[3])
    if word == "runs":
        return is_row(thing, 5) and _has_runs(thing[1], thing[2], thing[3], thing[4])
    if len(thing) < 3 or not isinstance(thing[1], Order) or not is_order_of(thing[2], thing[1].family):
        return False
    one, other = thing[1:3]
    if word in ("unlike", "beside", "opposite"):
        return is_row(thing, 5) and _is_said(word, one, other, thing[3:])
    if word == "serves":
        return is_row(thing, 4) and is_condition(one.family, thing[3]) and obstacle(one, other, thing[3]) is None
    if word == "finer":
        return is_row(thing, 3) and one <= other
    return word == "equal" and is_row(thing, 3) and one == other


def _is_judged(word, family, comparison, found):
    """Whether a comparison is the order with a normal key, or is broken by records."""
    if not isinstance(family, Family) or not is_comparison(family, comparison):
        return False
    if word == "broken":
        return broken_holds(family, comparison, found)
    return is_normal(family, found) and key_holds(family, comparison, found)


def _is_said(word, one, other, records):
    """Whether two orders say of two records what a word tells."""
    if not all([one.family.is_record(record) for record in records]):
        return False
    said = (one(records[0], records[1]), other(records[0], records[1]))
    if word == "unlike":
        return said in UNLIKE
    return said in (NOT_LESS if word == "beside" else OPPOSITE)


def _has_runs(order, condition, row, many):
    """Whether a row is a sorted one of records that have a condition and do not have it by turns, with so many runs."""
    if not isinstance(order, Order) or not is_condition(order.family, condition) or not isinstance(row, tuple):
        return False
    if not is_whole(many) or len(row) != (2 * many - 1 if many else 0):
        return False
    if not all([order.family.is_record(record) for record in row]):
        return False
    if not all([holds(order.family, condition, record) == (at % 2 == 0) for at, record in enumerate(row)]):
        return False
    return all([order(one, other) != "greater" for one, other in zip(row, row[1:])])
