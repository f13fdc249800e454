"""Whether what is said of records is an order, and records that break it if it is none.

The paths that the questions make are right for some cells if what is said of the records of these cells is an order. So
if something else is said of two cells, they are looked at alone: what is said of their records is broken, or the
questions about these two make other paths. If it is broken for no two cells, it is for three of them: the two, and one
by which their places were found. (Should this ever find nothing, all cells are looked through by threes.)
"""

from keybehind.basics import ascending
from keybehind.building import found_paths, leads_of, said_of, spans_at
from keybehind.charts import bits_in, set_of
from keybehind.meetings import arranged, chain_of, joined, outcomes, records_in, records_of, spans_in
from keybehind.parsing import SAID
from keybehind.reading import tests_in
from keybehind.sayers import TURNED_WORDS, Pathing, certain, tree_of_paths
from keybehind.trees import word_in

# What can rightly be said of r and s, of s and r, and by the key of r and s.
RIGHT = (("less", "greater", "less"), ("alike", "alike", "alike"), ("greater", "less", "greater"))
NOT_BEHIND = ("less", "alike")
ROWS_OF_THREE = ((0, 1, 2), (0, 2, 1), (1, 0, 2), (1, 2, 0), (2, 0, 1), (2, 1, 0))


def verdict(chart, sayer):
    """("plain", paths) with the paths of the plain key, or ("broken", records)."""
    firsts = sayer.firsts()
    # What is said of cells that are like another one need not be asked again.
    among = set_of([first == cell for cell, first in enumerate(firsts)])
    cells = bits_in(among)
    trees = {cell: said_of(sayer, cell, cell) for cell in cells}
    records = _broken_alone(chart, trees) or _broken_turned(chart, sayer, among)
    if records:
        return ("broken", records)
    leads = leads_of(chart, trees)
    paths = found_paths(chart, sayer, leads, cells, 0)
    pathing = Pathing(chart, [paths[first] for first in firsts])
    # What is certain of two cells can be compared fast, so that comes first.
    pairs = _pairs_wrong(sayer, pathing, among)
    doubts = []
    records = _broken_for_certain(chart, sayer, among, pairs)
    if not records:
        doubts, records = _looked_through(chart, sayer, leads, paths, pairs)
    if not records:
        more, records = _looked_through(chart, sayer, leads, paths, _pairs_left(sayer, among))
        doubts = [*doubts, *more]
    if doubts and not records:
        records = _broken_by_three(chart, sayer, leads, doubts, cells) or broken_anywhere(chart, sayer, cells)
    return ("broken", records) if records else ("plain", pathing.paths)


def follows(first, second):
    """What follows of r and t from what is said of r and s, and of s and t, neither of them "greater"."""
    return "alike" if first == second == "alike" else "less"


def _broken_alone(chart, trees):
    """A record that is not alike to itself, or (); given what is said of each cell and itself."""
    for cell, tree in trees.items():
        if tree != "alike":
            spans = spans_at(chart.slots[cell], list(range(len(chart.slots[cell]))))
            if word_in(tree, spans, spans) != "alike":
                return records_in(chart, chain_of(chart.cells[cell], 0), (cell,))
    return ()


def _broken_turned(chart, sayer, among):
    """Two records with cells of a set of which what is said for certain does not fit both ways round, or ()."""
    wrong = [certain(sayer, "less", cell) | certain(sayer, "alike", cell) for cell in range(len(chart.cells))]
    for one in bits_in(among):
        for other in bits_in(certain(sayer, "less", one) & among):
            if wrong[other] >> one & 1:
                return records_of(chart, (one, other))
    return ()


def _broken_for_certain(chart, sayer, among, pairs):
    """Three records of cells of a set, two of them one of the pairs, that break what is said for certain; or ()."""
    for pair in pairs:
        for one, other in (pair, pair[::-1]):
            for third in bits_in(among & _hardly_between(sayer, one, other)):
                # What is certain one way round need not fit the other way round.
                words = [said_of(sayer, one, third), said_of(sayer, third, other), said_of(sayer, one, other)]
                if words[1] in NOT_BEHIND and words[2] != follows(words[0], words[1]):
                    return records_of(chart, (one, third, other))
    return ()


def _hardly_between(sayer, one, other):
    """The set of the cells that break what is said for certain if they come between two cells."""
    low = certain(sayer, "less", one)
    alike = certain(sayer, "alike", one)
    high = certain(sayer, "greater", other)
    other_alike = certain(sayer, "alike", other)
    if certain(sayer, "greater", one) >> other & 1:
        return (low | alike) & (high | other_alike)
    if alike >> other & 1:
        return low & (high | other_alike) | alike & high
    return alike & other_alike if low >> other & 1 else 0


def _pairs_wrong(sayer, pathing, among):
    """The pairs of cells of which something is said for certain, and the paths do not say it for certain."""
    rows = {}
    for one in bits_in(among):
        rows[one] = 0
        for word in SAID:
            rows[one] = rows[one] | among & certain(sayer, word, one) & ~certain(pathing, word, one)
    return _pairs_of(rows)


def _pairs_left(sayer, among):
    """The pairs of cells of which nothing is said for certain."""
    rows = {}
    for one in bits_in(among):
        rows[one] = among
        for word in SAID:
            rows[one] = rows[one] & ~certain(sayer, word, one)
    return _pairs_of(rows)


def _pairs_of(rows):
    """The pairs of cells in rows, each once, the lower number first; each cell beside itself ahead of all others."""
    pairs = {(one, one): True for one, row in rows.items() if row >> one & 1}
    for one, row in rows.items():
        for other in bits_in(row):
            pairs[(one, other) if one < other else (other, one)] = True
    return list(pairs)


def _looked_through(chart, sayer, leads, paths, pairs):
    """The pairs of cells of which the paths do not say what is said; and records of such two that break it, or ()."""
    doubts = []
    right = [*RIGHT]
    for pair in pairs:
        trees = _trees_of(sayer, paths, pair)
        if trees in right:
            continue
        doubted, records = _checked(chart, trees, pair)
        if doubted:
            records = records or _broken_in(chart, sayer, leads, ascending(pair))
            if records:
                return doubts, records
            doubts.append(pair)
        elif _asks_once(trees):
            right.append(trees)
    return doubts, ()


def _trees_of(sayer, paths, pair):
    """What is said of two cells, what is said of them the other way round, and what paths say of them."""
    one, other = pair
    return (said_of(sayer, one, other), said_of(sayer, other, one), tree_of_paths(paths[one], paths[other]))


def _asks_once(trees):
    """Whether such trees ask for two values alone: then they are right for all cells or for none."""
    asked = []
    for tree, who in zip(trees, ("a", "b", "a")):
        for _, one, other in tests_in(tree):
            fields = (one[1], other[1]) if one[0] == who else (other[1], one[1])
            if fields not in asked:
                asked.append(fields)
    return len(asked) == 1


def _checked(chart, trees, pair):
    """Whether paths say something else of two cells than is said; and two records of them that break it, or ()."""
    one, other = pair
    chain = chain_of(chart.cells[one], 0)
    doubted = False
    asked = ((trees[0], 0, 1, SAID), (trees[1], 1, 0, SAID), (trees[2], 0, 1, SAID))
    for words, spans in outcomes(chart, chain, 1, other, asked):
        if words[1] != TURNED_WORDS[words[0]]:
            return True, records_in(chart, joined(chart, chain, other, spans, 1), pair)
        doubted = doubted or words not in RIGHT
    return doubted, ()


def _broken_in(chart, sayer, leads, cells):
    """Records of some cells that break what is said, or () if it is an order of these."""
    paths = found_paths(chart, sayer, leads, cells, 0)
    found = False
    for at, one in enumerate(cells):
        for other in cells[at:]:
            doubted, records = _checked(chart, _trees_of(sayer, paths, (one, other)), (one, other))
            if records:
                return records
            found = found or doubted
    if not found:
        return ()
    if len(cells) == 3:
        return three_of(chart, sayer, cells)
    one, other = cells[0], cells[-1]
    for row in ((one, one, other), (one, other, other), (one, one, one), (other, other, other)):
        records = three_of(chart, sayer, row)
        if records:
            return records
    return ()


def _broken_by_three(chart, sayer, leads, doubts, cells):
    """Three records of three cells that break what is said, given all pairs of cells about which there is a doubt."""
    # The first cell that came to a wrong place was asked about with one of those ahead of it that tells that.
    for other, one in ascending([(pair[1], pair[0]) for pair in doubts]):
        for third in cells:
            if third not in (one, other):
                records = _broken_in(chart, sayer, leads, ascending((one, other, third)))
                if records:
                    return records
    return ()


def broken_anywhere(chart, sayer, cells):
    """Three records of any of these cells that break what is said, or (); no two of them do so."""
    for at, one in enumerate(cells):
        for beside, other in enumerate(cells[at:], start=at):
            for third in cells[beside:]:
                records = three_of(chart, sayer, (one, other, third))
                if records:
                    return records
    return ()


def three_of(chart, sayer, cells):
    """Three records of just these cells that break what is said, or (); no two of them do so."""
    one, other, third = cells
    chain = chain_of(chart.cells[one], 0)
    asked = ((said_of(sayer, one, other), 0, 1, SAID),)
    few = [spans for _, spans in outcomes(chart, chain, 1, other, asked)]
    # A few ways in which the first two can lie are often enough.
    return _third_of(chart, sayer, cells, few) or _third_of(chart, sayer, cells, arranged(chart, chain, other))


def _third_of(chart, sayer, cells, ways):
    """The same, if the first two records lie in one of some ways."""
    one, other, third = cells
    chain = chain_of(chart.cells[one], 0)
    tree = said_of(sayer, one, other)
    asked = ((said_of(sayer, one, third), 0, 2, SAID), (said_of(sayer, third, other), 2, 1, SAID))
    for way in ways:
        pair = joined(chart, chain, other, way, 1)
        first = word_in(tree, spans_in(pair, 0), spans_in(pair, 1))
        for words, spans in outcomes(chart, pair, 2, third, asked):
            row = _breaking_row(first, words[0], words[1])
            if row:
                records = records_in(chart, joined(chart, pair, third, spans, 2), cells)
                return tuple([records[at] for at in row])
    return ()


def _breaking_row(first, second, third):
    """In which row three records break what is said of 0 and 1, of 0 and 2, and of 2 and 1; or ()."""
    said = {(0, 1): first, (1, 0): TURNED_WORDS[first], (0, 2): second, (2, 0): TURNED_WORDS[second],
            (2, 1): third, (1, 2): TURNED_WORDS[third]}
    for one, other, last in ROWS_OF_THREE:
        if "greater" not in (said[(one, other)], said[(other, last)]):
            if said[(one, last)] != follows(said[(one, other)], said[(other, last)]):
                return (one, other, last)
    return ()
