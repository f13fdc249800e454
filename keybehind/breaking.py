"""Whether what is said of records is an order, and records that break it if it is none."""

from keybehind.building import plain_node, spans_at
from keybehind.meetings import chain_of, joined, outcomes, picked, records_in
from keybehind.sayers import TURNED_WORDS, paths_in, tree_of_paths
from keybehind.trees import word_in

# What can rightly be said of r and s, of s and r, and by the key of r and s.
RIGHT = (("less", "greater", "less"), ("alike", "alike", "alike"), ("greater", "less", "greater"))
TRIPLES = ((0, 1, 2), (0, 2, 1), (1, 0, 2), (1, 2, 0), (2, 0, 1), (2, 1, 0))


def verdict(chart, sayer):
    """("plain", node) with the node of the plain key, or ("broken", records)."""
    records = _broken_alone(chart, sayer)
    if records:
        return ("broken", records)
    node = plain_node(chart, sayer)
    paths = paths_in(node)
    paths = [paths[cell] for cell in chart.cells]
    doubt = _first_doubt(chart, sayer, paths)
    if doubt:
        return ("broken", _broken_by(chart, sayer, paths, doubt))
    return ("plain", node)


def breaks(said, whos):
    """Whether three records, one after the other, break what is said of every two of them."""
    one, other, last = whos
    first = said[(one, other)]
    second = said[(other, last)]
    if first == "greater" or second == "greater":
        return False
    return said[(one, last)] != ("alike" if first == second == "alike" else "less")


def _broken_alone(chart, sayer):
    """A record that is not alike to itself, or ()."""
    for at, cell in enumerate(chart.cells):
        spans = spans_at(chart.slots[at], list(range(len(chart.slots[at]))))
        if word_in(sayer.tree(at, at), spans, spans) != "alike":
            return records_in(chart, chain_of(cell, 0), (at,))
    return ()


def _first_doubt(chart, sayer, paths):
    """Two cells, and a chain of records of them, of which the key does not say what is said; or ()."""
    many = len(chart.cells)
    for apart in range(many):
        for one in range(many - apart):
            doubt = _doubt_about(chart, sayer, paths, one, one + apart)
            if doubt:
                return doubt
    return ()


def _doubt_about(chart, sayer, paths, one, other):
    trees = (sayer.tree(one, other), sayer.tree(other, one), tree_of_paths(paths[one], paths[other]))
    if trees in RIGHT:
        return ()
    chain = chain_of(chart.cells[one], 0)
    asked = ((trees[0], 0, 1), (trees[1], 1, 0), (trees[2], 0, 1))
    for words, spans in outcomes(chart, chain, 1, other, asked):
        if words not in RIGHT:
            return ((one, other), joined(chart, chain, other, spans, 1))
    return ()


def _broken_by(chart, sayer, paths, doubt):
    """Records that break what is said, given two of which the key says something else.

    From the one to the other leads a row of records in which each step is one about which the key was told. So a
    third record with them breaks what is said, or with one of them and another one of which the key says something
    else.
    """
    todo = [doubt]
    seen = {}
    while todo:
        cells, chain = todo.pop()
        records = records_in(chart, chain, cells)
        if records in seen:
            continue
        seen[records] = True
        for third in [*cells, *[cell for cell in range(len(chart.cells)) if cell not in cells]]:
            for said, key_said, longer in _thirds(chart, sayer, paths, cells, chain, third):
                whos = _broken_among(said)
                if whos:
                    records = records_in(chart, longer, (*cells, third))
                    return tuple([records[who] for who in whos])
                todo.extend(_doubts_between(said, key_said, (*cells, third), longer))
    return ()


def _thirds(chart, sayer, paths, cells, chain, third):
    """What is said, and what the key says, of two records and a third one, in all ways in which it can lie."""
    one, other = cells
    pairs = ((0, 1), (1, 0), (0, 2), (2, 0), (1, 2), (2, 1))
    all_cells = (one, other, third)
    trees = [sayer.tree(all_cells[first], all_cells[second]) for first, second in pairs]
    key_trees = [tree_of_paths(paths[all_cells[first]], paths[all_cells[second]]) for first, second in pairs]
    asked = [(tree, *pair) for tree, pair in zip([*trees, *key_trees], [*pairs, *pairs])]
    found = []
    for words, spans in outcomes(chart, chain, 2, third, asked):
        said = {pair: word for pair, word in zip(pairs, words)}
        key_said = {pair: word for pair, word in zip(pairs, words[len(pairs):])}
        found.append((said, key_said, joined(chart, chain, third, spans, 2)))
    return found


def _broken_among(said):
    """Which of three records break what is said of them, in order, or ()."""
    for one, other in ((0, 1), (0, 2), (1, 2)):
        if said[(other, one)] != TURNED_WORDS[said[(one, other)]]:
            return (one, other)
    for whos in TRIPLES:
        if breaks(said, whos):
            return whos
    return ()


def _doubts_between(said, key_said, cells, chain):
    """The doubts about each of two records and a third one, if the key has the third one between them."""
    ahead = ("less", "alike") if key_said[(0, 1)] != "greater" else ("greater", "alike")
    if key_said[(0, 2)] not in ahead or key_said[(2, 1)] not in ahead:
        return []
    return [((cells[one], cells[other]), picked(chain, (one, other)))
            for one, other in ((0, 2), (1, 2)) if said[(one, other)] != key_said[(one, other)]]
