"""Two orders beside each other: records of which they say such and such."""

from keybehind.meetings import chain_of, joined, outcomes, records_in
from keybehind.parsing import SAID

UNLIKE = (("less", "alike"), ("less", "greater"), ("alike", "less"), ("alike", "greater"), ("greater", "less"),
          ("greater", "alike"))
NOT_LESS = (("less", "alike"), ("less", "greater"))
OPPOSITE = (("less", "greater"),)


def pair_said(chart, sayer, other_sayer, wanted, cells):
    """Two records of these cells of which two sayers say one of the wanted pairs of words, or None."""
    for one in cells:
        for other in cells:
            records = _pair_of_cells(chart, one, other, (sayer.tree(one, other), other_sayer.tree(one, other)), wanted)
            if records:
                return records
    return None


def _pair_of_cells(chart, one, other, trees, wanted):
    if isinstance(trees[0], str) and isinstance(trees[1], str) and trees not in wanted:
        return ()
    chain = chain_of(chart.cells[one], 0)
    asked = ((trees[0], 0, 1, [pair[0] for pair in wanted]), (trees[1], 0, 1, SAID))
    for words, spans in outcomes(chart, chain, 1, other, asked):
        if words in wanted:
            return records_in(chart, joined(chart, chain, other, spans, 1), (one, other))
    return ()
