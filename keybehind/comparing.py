"""Two sayers beside each other: records of which they say such and such."""

from keybehind.building import said_of
from keybehind.charts import bits_in, lowest_in
from keybehind.meetings import chain_of, joined, outcomes, records_in
from keybehind.sayers import certain, firsts_of, maybe

UNLIKE = (("less", "alike"), ("less", "greater"), ("alike", "less"), ("alike", "greater"), ("greater", "less"),
          ("greater", "alike"))
NOT_LESS = (("less", "alike"), ("less", "greater"))
OPPOSITE = (("less", "greater"),)
# With fewer pairs of cells it is not worth while to look which of them are like each other.
FEW = 50


def pair_said(chart, sayer, other_sayer, wanted, among):
    """Two records with their cells in a set, of which two sayers say one of the wanted pairs of words, or None."""
    cells = bits_in(among)
    # What is certain of two cells can be compared fast, so that comes first.
    for one in cells:
        for word, other_word in wanted:
            found = certain(sayer, word, one) & certain(other_sayer, other_word, one) & among
            if found:
                return _pair_of_cells(chart, sayer, other_sayer, wanted, one, lowest_in(found))
    for one, other in _pairs_left(sayer, other_sayer, wanted, among):
        records = _pair_of_cells(chart, sayer, other_sayer, wanted, one, other)
        if records:
            return records
    return None


def _pairs_left(sayer, other_sayer, wanted, among):
    """The pairs of cells of a set of which one of the wanted pairs of words may be said."""
    pairs = []
    for one in bits_in(among):
        some = 0
        for word, other_word in wanted:
            some = some | maybe(sayer, word, one) & maybe(other_sayer, other_word, one)
        pairs.extend([(one, other) for other in bits_in(among & some)])
    if len(pairs) < FEW:
        return pairs
    looks = list(zip(sayer.firsts(), other_sayer.firsts()))
    firsts = firsts_of([(look, among >> at & 1) for at, look in enumerate(looks)])
    return [pair for pair in pairs if firsts[pair[0]] == pair[0] and firsts[pair[1]] == pair[1]]


def _pair_of_cells(chart, sayer, other_sayer, wanted, one, other):
    """Two records of two cells, as above, or ()."""
    chain = chain_of(chart.cells[one], 0)
    firsts = [pair[0] for pair in wanted]
    lasts = [pair[1] for pair in wanted]
    asked = ((said_of(sayer, one, other), 0, 1, firsts), (said_of(other_sayer, one, other), 0, 1, lasts))
    for words, spans in outcomes(chart, chain, 1, other, asked):
        if words in wanted:
            return records_in(chart, joined(chart, chain, other, spans, 1), (one, other))
    return ()
