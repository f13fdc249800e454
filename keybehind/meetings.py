"""Meetings: in which orders the values of records of given cells can lie, as far as that must be known.

A *chain* tells, measure by measure, how the values of some records and the limits lie: it has groups as cells have
them, but with `(who, field)` in the place of fields. The first record is number 0. A record that is added to a chain
can have its values between the groups of the chain or on them: *spans* tell of each of its slots between which
positions it lies; position 2k + 1 is that of group k, 2k lies just below it.
"""

from keybehind.cells import heights_of
from keybehind.trees import word_in


def chain_of(cell, who):
    """The chain of one record."""
    return {measure: _entered(groups, who) for measure, groups in cell[1]}


def outcomes(chart, chain, many, cell, trees):
    """All words that trees can come to for a chain of so many records and one more of a cell, with its spans.

    A tree stands with the numbers of its two records, and with the words that are wanted of it.
    """
    known = [spans_in(chain, who) for who in range(many)]
    found = []
    todo = [_first_spans(chart, chain, cell)]
    while todo:
        spans = todo.pop()
        told = [*known, {field: spans[at] for field, at in chart.places[cell].items()}]
        words = []
        for tree, one, other, wanted in trees:
            word = word_in(tree, told[one], told[other])
            if isinstance(word, tuple):
                field, beside = word if one == many else (word[1], word[0])
                position = known[other if one == many else one][beside][0]
                todo.extend(_parted(chart.slots[cell], spans, chart.places[cell][field], position))
                break
            if word not in wanted:
                break
            words.append(word)
        else:
            found.append((tuple(words), spans))
    return found


def arranged(chart, chain, cell):
    """All spans of a record of a cell beside a chain in which each value has its place."""
    found = []
    todo = [_first_spans(chart, chain, cell)]
    while todo:
        spans = todo.pop()
        loose = [at for at, (low, high) in enumerate(spans) if low < high]
        if not loose:
            found.append(spans)
            continue
        low, high = spans[loose[0]]
        for position in range(low, high + 1):
            todo.append(_tightened(chart.slots[cell], spans, loose[0], (position, position)))
    return found


def records_of(chart, cells):
    """Any records of these cells."""
    chain = chain_of(chart.cells[cells[0]], 0)
    for who, cell in enumerate(cells[1:], start=1):
        chain = joined(chart, chain, cell, _first_spans(chart, chain, cell), who)
    return records_in(chart, chain, cells)


def joined(chart, chain, cell, spans, who):
    """The chain with one more record of a cell, its values as low as the spans allow."""
    longer = {measure: chain[measure] for measure in chain}
    at = 0
    for measure, groups in chart.cells[cell][1]:
        entered = _entered(groups, who)
        if measure in chain:
            positions = [low for low, _ in spans[at:at + len(groups)]]
            longer[measure] = _merged(chain[measure], entered, positions)
        else:
            longer[measure] = entered
        at = at + len(groups)
    return longer


def records_in(chart, chain, cells):
    """Records of these cells, the values of which lie as a chain tells."""
    heights = {}
    for groups in list(chain.values()):
        for height, (_, entries) in zip(heights_of(groups), groups):
            for entry in entries:
                heights[entry] = height
    records = []
    for who, cell in enumerate(cells):
        kind = chart.cells[cell][0]
        records.append((kind, tuple([heights.get((who, field), 0) for field in chart.family.fields_of(kind)])))
    return tuple(records)


def spans_in(chain, who):
    """The spans of the fields of a record that a chain has."""
    spans = {}
    for groups in list(chain.values()):
        for at, (_, entries) in enumerate(groups):
            for entry in entries:
                if entry[0] == who:
                    spans[entry[1]] = (2 * at + 1, 2 * at + 1)
    return spans


def _entered(groups, who):
    return tuple([(limit, tuple([(who, field) for field in fields])) for limit, fields in groups])


def _first_spans(chart, chain, cell):
    """The spans of the slots of a cell beside a chain: only its limits are in their places."""
    spans = []
    for measure, groups in chart.cells[cell][1]:
        marks = {limit[0]: 2 * at + 1 for at, (limit, _) in enumerate(chain.get(measure, ())) if limit}
        low = 0
        lows = []
        for limit, _ in groups:
            if limit:
                low = marks.get(limit[0], 0)
            lows.append(low)
            low = low + low % 2
        high = 2 * len(chain.get(measure, ()))
        highs = []
        for limit, _ in groups[::-1]:
            if limit:
                high = marks.get(limit[0], 0)
            highs.append(high)
            high = high - high % 2
        spans.extend(list(zip(lows, highs[::-1])))
    return tuple(spans)


def _parted(slots, spans, slot, position):
    """The spans if a slot lies below a group of the chain, on it, or above it; it may lie in each of these places."""
    low, high = spans[slot]
    parts = ((low, position - 1), (position + 1, high), (position, position))
    return [_tightened(slots, spans, slot, part) for part in parts]


def _tightened(slots, spans, slot, span):
    """The spans if one slot has this span: those beside it keep clear of it."""
    tight = list(spans)
    tight[slot] = span
    measure = slots[slot][0]
    at = slot + 1
    low = span[0] + span[0] % 2
    while at < len(slots) and slots[at][0] == measure and tight[at][0] < low:
        tight[at] = (low, tight[at][1])
        at = at + 1
    at = slot - 1
    high = span[1] - span[1] % 2
    while at >= 0 and slots[at][0] == measure and tight[at][1] > high:
        tight[at] = (tight[at][0], high)
        at = at - 1
    return tuple(tight)


def _merged(groups, added, positions):
    """The groups with those of one more record, each at its position."""
    merged = []
    for at, (limit, entries) in enumerate(groups):
        merged.extend([group for group, position in zip(added, positions) if position == 2 * at])
        here = [group[1] for group, position in zip(added, positions) if position == 2 * at + 1]
        merged.append((limit, (*entries, *here[0]) if here else entries))
    merged.extend([group for group, position in zip(added, positions) if position == 2 * len(groups)])
    return tuple(merged)
