"""What the cells of two records decide of a tree, told for all pairs of cells at once.

*Rows* are a list with a set of cells for each cell: of the pairs of this cell and one of the set, something is known. A
*note* tells of a condition `(who, yes, no, condition, parts)`. For who "a" or "b", yes is the set of the cells of which
the record a or b has the condition, no the set of all others. For who "" yes and no are rows: pairs of cells that have
the condition for certain, and pairs that do not have it for certain; of other pairs it hangs on the values. The parts
are the notes of what is joined by "not", "and" and "or". A *noted* tree has notes in the place of conditions.
"""

from keybehind.charts import set_of
from keybehind.parsing import JOINTS
from keybehind.reading import tests_in
from keybehind.trees import is_of_kind

LACKING = -1


def noted(chart, tree):
    """A tree with notes of its conditions."""
    return _noted_tree(chart, _known(chart, tree), tree)


def possible(chart, tree):
    """For each word of a noted tree, the rows of the pairs of cells of which it may be said, as far as they tell."""
    many = len(chart.cells)
    if isinstance(tree, str):
        return {tree: [chart.full] * many}
    if tree[0] == "then":
        return _possible_then(chart, tree)
    who, yes, no, _, _ = tree[1]
    first = possible(chart, tree[2])
    last = possible(chart, tree[3])
    none = [0] * many
    found = {}
    for word in [*first, *[other for other in last if other not in first]]:
        ones = first.get(word, none)
        others = last.get(word, none)
        if who == "a":
            found[word] = [ones[at] if yes >> at & 1 else others[at] for at in range(many)]
        elif who == "b":
            found[word] = [one & yes | other & no for one, other in zip(ones, others)]
        else:
            found[word] = [one & ~unmet | other & ~met for one, other, met, unmet in zip(ones, others, yes, no)]
    return found


def decided(rows_by_word):
    """For each word the rows of the pairs of cells of which it is said for certain, given those of which it may be."""
    found = {}
    for word, rows in rows_by_word.items():
        left = list(rows)
        for other in rows_by_word:
            if other != word:
                left = [row & ~beside for row, beside in zip(left, rows_by_word[other])]
        found[word] = left
    return found


def cells_with(chart, condition):
    """The set of the cells of which the records have a condition on one record."""
    return _note(chart, _known(chart, condition), condition)[1]


def _known(chart, thing):
    """What is known of each test in a tree or a condition: who, yes and no."""
    known = {}
    for test in tests_in(thing):
        if test not in known:
            known[test] = _met_test(chart, test)
    return known


def _noted_tree(chart, known, tree):
    if isinstance(tree, str):
        return tree
    if tree[0] == "then":
        rows = [(word, _noted_tree(chart, known, rest)) for word, rest in tree[2]]
        return ("then", _noted_tree(chart, known, tree[1]), tuple(rows))
    yes, no = [_noted_tree(chart, known, part) for part in tree[2:]]
    return ("if", _note(chart, known, tree[1]), yes, no)


def _note(chart, known, condition):
    """The note of a condition."""
    word = condition[0]
    if word != "not" and word not in JOINTS:
        return (*known[condition], condition, ())
    parts = tuple([_note(chart, known, part) for part in condition[1:]])
    if word == "and":
        return (*_all_of(chart, parts), condition, parts)
    if word == "or":
        # Turned round: it does not hold if none of the parts does.
        who, no, yes = _all_of(chart, [(part[0], part[2], part[1]) for part in parts])
    else:
        who, no, yes = parts[0][:3]
    return (who, yes, no, condition, parts)


def _possible_then(chart, tree):
    """The same for a tree that goes on, word by word, where another one ends."""
    ahead = possible(chart, tree[1])
    found = {}
    for word, rest in tree[2]:
        if word in ahead:
            below = possible(chart, rest)
            for last in below:
                rows = [one & other for one, other in zip(ahead[word], below[last])]
                old = found.get(last, [0] * len(rows))
                found[last] = [one | other for one, other in zip(old, rows)]
    return found


def _all_of(chart, parts):
    """What is known of several conditions joined by "and": who, yes and no."""
    mine = chart.full
    yours = chart.full
    rows = ()
    for part in parts:
        who, yes, no = part[:3]
        if who == "a":
            mine = mine & yes
        elif who == "b":
            yours = yours & yes
        elif rows:
            rows = ([one & other for one, other in zip(rows[0], yes)], [one | other for one, other in zip(rows[1], no)])
        else:
            rows = (yes, no)
    if not rows and yours == chart.full:
        return ("a", mine, chart.full ^ mine)
    if not rows and mine == chart.full:
        return ("b", yours, chart.full ^ yours)
    many = range(len(chart.cells))
    if not rows:
        rows = ([chart.full for _ in many], [0 for _ in many])
    not_yours = chart.full ^ yours
    return ("", [rows[0][at] & yours if mine >> at & 1 else 0 for at in many],
            [rows[1][at] | not_yours if mine >> at & 1 else chart.full for at in many])


def _met_test(chart, test):
    """What is known of a test: who, yes and no."""
    word, one, other = test
    if word in ("is", "kind"):
        yes = set_of([is_of_kind(chart.family, test, kind) for kind, _ in chart.cells])
        return (one, yes, chart.full ^ yes)
    if isinstance(one, tuple) and isinstance(other, tuple):
        if one[0] != other[0]:
            return _met_between(chart, word, one, other)
        places = [(place.get(one[1], LACKING), place.get(other[1], LACKING)) for place in chart.places]
        who = one[0]
    else:
        read = one if isinstance(one, tuple) else other
        zones = _zones_by_cell(chart, read[1])
        mark = chart.marks[(chart.family.measure_of(read[1]), other if isinstance(one, tuple) else one)]
        places = [(zone, mark) if isinstance(one, tuple) else (mark, zone) for zone in zones]
        who = read[0]
    if word == "less":
        yes = set_of([LACKING < low < high for low, high in places])
    else:
        yes = set_of([LACKING < low == high for low, high in places])
    return (who, yes, chart.full ^ yes)


def _met_between(chart, word, one, other):
    """What is known of a test of a value of each record: who, yes and no."""
    mine, yours = (one, other) if one[0] == "a" else (other, one)
    zones = _zones_by_cell(chart, mine[1])
    beside = _zones_by_cell(chart, yours[1])
    yes = {LACKING: 0}
    no = {LACKING: chart.full}
    for zone in sorted(set(zones)):
        if zone == LACKING:
            continue
        same = set_of([part == zone for part in beside])
        # In one gap between limits the values decide.
        left = 0 if zone % 2 else same
        if word == "same":
            met = same ^ left
        elif one[0] == "a":
            met = set_of([part > zone for part in beside])
        else:
            met = set_of([LACKING < part < zone for part in beside])
        yes[zone] = met
        no[zone] = chart.full ^ met ^ left
    return ("", [yes[zone] for zone in zones], [no[zone] for zone in zones])


def _zones_by_cell(chart, field):
    """Of each cell the zone of a field, or LACKING."""
    return [zones[places[field]] if field in places else LACKING for zones, places in zip(chart.zones, chart.places)]
