"""Whether what is said of records is an order, and records that break it if it is none."""

from keybehind.building import plain_node, spans_at
from keybehind.meetings import chain_of, joined, outcomes, picked, records_in, spans_in
from keybehind.parsing import SAID
from keybehind.sayers import TURNED_WORDS, paths_in, tree_of_paths
from keybehind.trees import word_in

NOT_BEHIND = ("less", "alike")
# What can rightly be said of r and s, of s and r, and by the key of r and s.
RIGHT = (("less", "greater", "less"), ("alike", "alike", "alike"), ("greater", "less", "greater"))


def verdict(chart, sayer):
    """("plain", node) with the node of the plain key, or ("broken", records)."""
    records = _broken_alone(chart, sayer)
    if records:
        return ("broken", records)
    node = plain_node(chart, sayer)
    paths = paths_in(node)
    paths = [paths[cell] for cell in chart.cells]
    doubt = _first_doubt(chart, sayer, paths)
    if doubt:
        return ("broken", _broken_by(chart, sayer, paths, doubt))
    return ("plain", node)


def follows(first, second):
    """What follows of r and t from what is said of r and s, and of s and t, neither of them "greater"."""
    return "alike" if first == second == "alike" else "less"


def _broken_alone(chart, sayer):
    """A record that is not alike to itself, or ()."""
    for at, cell in enumerate(chart.cells):
        spans = spans_at(chart.slots[at], list(range(len(chart.slots[at]))))
        if word_in(sayer.tree(at, at), spans, spans) != "alike":
            return records_in(chart, chain_of(cell, 0), (at,))
    return ()


def _first_doubt(chart, sayer, paths):
    """Two cells, and a chain of records of them, of which the key does not say what is said; or ().

    In the chain of a doubt the key has the first record not behind the second one.
    """
    many = len(chart.cells)
    for apart in range(many):
        for one in range(many - apart):
            doubt = _doubt_about(chart, sayer, paths, one, one + apart)
            if doubt:
                return doubt
    return ()


def _doubt_about(chart, sayer, paths, one, other):
    trees = (sayer.tree(one, other), sayer.tree(other, one), tree_of_paths(paths[one], paths[other]))
    if trees in RIGHT:
        return ()
    chain = chain_of(chart.cells[one], 0)
    asked = ((trees[0], 0, 1, SAID), (trees[1], 1, 0, SAID), (trees[2], 0, 1, SAID))
    for words, spans in outcomes(chart, chain, 1, other, asked):
        if words not in RIGHT:
            longer = joined(chart, chain, other, spans, 1)
            return ((other, one), picked(longer, (1, 0))) if words[2] == "greater" else ((one, other), longer)
    return ()


def _broken_by(chart, sayer, paths, doubt):
    """Records that break what is said, given a doubt.

    From the one record to the other one leads a row of records, by the key none behind the next one, in which each step
    is one about which the key was told. At the first record of which something else is said than the key says, the one
    ahead of it shows that: so it is found between two records about which there is a doubt.
    """
    todo = [doubt]
    seen = {}
    while todo:
        cells, chain = todo.pop()
        records = records_in(chart, chain, cells)
        if records in seen:
            continue
        seen[records] = True
        said = _word_of_chain(sayer, cells, chain, 0, 1)
        if _word_of_chain(sayer, cells, chain, 1, 0) != TURNED_WORDS[said]:
            return records
        for third in [*cells, *[cell for cell in range(len(chart.cells)) if cell not in cells]]:
            for words, spans in _between(chart, sayer, paths, cells, chain, third):
                longer = joined(chart, chain, third, spans, 2)
                if "greater" not in words[2:] and said != follows(words[2], words[3]):
                    one, other, middle = records_in(chart, longer, (*cells, third))
                    return (one, middle, other)
                if words[2] != words[0]:
                    todo.append(((cells[0], third), picked(longer, (0, 2))))
                if words[3] != words[1]:
                    todo.append(((third, cells[1]), picked(longer, (2, 1))))
    return ()


def _word_of_chain(sayer, cells, chain, one, other):
    """What is said of two records of a chain."""
    return word_in(sayer.tree(cells[one], cells[other]), spans_in(chain, one), spans_in(chain, other))


def _between(chart, sayer, paths, cells, chain, third):
    """How a third record can lie between two, as the key has it; with what the key and the sayer say of it and them."""
    one, other = cells
    asked = ((tree_of_paths(paths[one], paths[third]), 0, 2, NOT_BEHIND),
             (tree_of_paths(paths[third], paths[other]), 2, 1, NOT_BEHIND),
             (sayer.tree(one, third), 0, 2, SAID), (sayer.tree(third, other), 2, 1, SAID))
    return outcomes(chart, chain, 2, third, asked)
