"""Two sayers beside each other: records of which they say such and such."""

from keybehind.building import said_of
from keybehind.charts import bits_in, lowest_in
from keybehind.meetings import chain_of, joined, outcomes, records_in
from keybehind.sayers import certain

UNLIKE = (("less", "alike"), ("less", "greater"), ("alike", "less"), ("alike", "greater"), ("greater", "less"),
          ("greater", "alike"))
NOT_LESS = (("less", "alike"), ("less", "greater"))
OPPOSITE = (("less", "greater"),)


def pair_said(chart, sayer, other_sayer, wanted, among):
    """Two records with their cells in a set, of which two sayers say one of the wanted pairs of words, or None."""
    cells = bits_in(among)
    # What is certain of two cells can be compared fast, so that comes first.
    for one in cells:
        for word, other_word in wanted:
            found = certain(sayer, word, one) & certain(other_sayer, other_word, one) & among
            if found:
                return _pair_of_cells(chart, sayer, other_sayer, wanted, one, lowest_in(found))
    for one in cells:
        for other in bits_in(among & ~_told(sayer, other_sayer, wanted, one)):
            records = _pair_of_cells(chart, sayer, other_sayer, wanted, one, other)
            if records:
                return records
    return None


def _told(sayer, other_sayer, wanted, cell):
    """The set of the cells of which, beside one cell, it is certain that none of the wanted pairs of words is said."""
    some = 0
    for word, other_word in wanted:
        some = some | _possible(sayer, word, cell) & _possible(other_sayer, other_word, cell)
    return ~some


def _possible(sayer, word, cell):
    """The set of the cells of which, beside one cell, a sayer may say a word; also numbers that are no cells."""
    others = 0
    for due in sayer.decided:
        if due != word:
            others = others | sayer.decided[due][cell]
    return ~others


def _pair_of_cells(chart, sayer, other_sayer, wanted, one, other):
    """Two records of two cells, as above, or ()."""
    chain = chain_of(chart.cells[one], 0)
    firsts = [pair[0] for pair in wanted]
    lasts = [pair[1] for pair in wanted]
    asked = ((said_of(sayer, one, other), 0, 1, firsts), (said_of(other_sayer, one, other), 0, 1, lasts))
    for words, spans in outcomes(chart, chain, 1, other, asked):
        if words in wanted:
            return records_in(chart, joined(chart, chain, other, spans, 1), (one, other))
    return ()
