"""Judging: whether a comparison is an order, and what its key is or what breaks it."""

from keybehind.breaking import follows, verdict
from keybehind.charts import Chart
from keybehind.comparing import UNLIKE, pair_said
from keybehind.conditions import is_comparison, word_for
from keybehind.errors import BadComparison
from keybehind.keys import chart_for, sayer_for
from keybehind.normals import normal_key
from keybehind.reading import read_and_named
from keybehind.sayers import TURNED_WORDS, Comparing
from keybehind.shapes import chart_of_key


def judge(family, comparison):
    """("key", key) with the normal key of a comparison, or ("broken", records) with records that break it."""
    if not is_comparison(family, comparison):
        raise BadComparison(comparison)
    reads, limits = read_and_named(family, comparison)
    chart = Chart(family, reads, limits)
    word, found = verdict(chart, Comparing(chart, comparison))
    return ("broken", found) if word == "broken" else ("key", normal_key(chart, found))


def broken_holds(family, comparison, thing):
    """Whether a value is a tuple of records that break a comparison."""
    if not isinstance(thing, tuple) or not 1 <= len(thing) <= 3:
        return False
    if not all([family.is_record(part) for part in thing]):
        return False
    whos = list(range(len(thing)))
    said = {(one, other): word_for(family, comparison, thing[one], thing[other]) for one in whos for other in whos}
    if len(thing) == 1:
        return said[(0, 0)] != "alike"
    if len(thing) == 2:
        return said[(1, 0)] != TURNED_WORDS[said[(0, 1)]]
    if said[(0, 1)] == "greater" or said[(1, 2)] == "greater":
        return False
    return said[(0, 2)] != follows(said[(0, 1)], said[(1, 2)])


def key_holds(family, comparison, thing):
    """Whether a value is a key that says what a comparison says."""
    if chart_of_key(family, thing) is None:
        return False
    chart = chart_for(family, read_and_named(family, comparison), thing)
    return pair_said(chart, Comparing(chart, comparison), sayer_for(chart, thing), UNLIKE, chart.full) is None
