"""Runs of a condition in sorted lists, and whether lists by one order serve as lists by another one."""

from keybehind.cells import record_of
from keybehind.common import cells_in
from keybehind.comparing import NOT_LESS, pair_said
from keybehind.conditions import STEP
from keybehind.deciding import cells_with
from keybehind.errors import NoRow
from keybehind.keys import sayer_for
from keybehind.orders import chart_with
from keybehind.plainpaths import node_of, plain_paths
from keybehind.sayers import paths_for

# How far from limits the values of a row stay: so the other values of each record have room beside them.
CLEAR = 10


def runs(order, condition):
    """The greatest number of runs of a condition in sorted lists, or None if there is none."""
    chart, node, having = _first_node(order, condition)
    if _mixed_block(node, having):
        return None
    return _runs_in(_alternating(node, having))


def row_with(order, condition, many):
    """A sorted row of records that have a condition and do not have it by turns, with so many runs."""
    chart, node, having = _first_node(order, condition)
    block = _mixed_block(node, having)
    if block:
        return _mixed_row(chart, block, having, 2 * many - 1)
    cells = _alternating(node, having)
    if many > _runs_in(cells):
        raise NoRow(_runs_in(cells))
    return tuple([_any_record(chart, cell) for cell in cells[:2 * many - 1]]) if many else ()


def obstacle(order, wish, condition):
    """Two records with a condition of which the wish says "less" and the order does not, or None."""
    chart = chart_with(order, condition, wish)
    sayers = [sayer_for(chart, part.key) for part in (wish, order)]
    return pair_said(chart, sayers[0], sayers[1], NOT_LESS, cells_with(chart, condition))


def _first_node(order, condition):
    """The chart for an order and a condition, the node of the plain key, and whether each cell has the condition."""
    chart = chart_with(order, condition)
    node = node_of(chart, plain_paths(chart, paths_for(chart, order.key)))
    met = cells_with(chart, condition)
    return chart, node, {cell: met >> at & 1 == 1 for at, cell in enumerate(chart.cells)}


def _mixed_block(node, having):
    """A block with cells that have the condition and cells that do not, or ()."""
    for block in node:
        met = [having[cell] for cell in cells_in(block)]
        if any(met) and not all(met):
            return block
    return ()


def _alternating(node, having):
    """As many cells as can be, block by block, that have the condition and do not have it by turns."""
    cells = []
    for block in node:
        cell = cells_in(block)[0]
        if having[cell] == (len(cells) % 2 == 0):
            cells.append(cell)
    return cells


def _runs_in(cells):
    return (len(cells) + 1) // 2


def _any_record(chart, cell):
    return record_of(chart.family, chart.reads, chart.limits, cell)


def _mixed_row(chart, block, having, many):
    """A sorted row of so many records of one block, with the condition and without it by turns."""
    cells = cells_in(block)
    turns = [[cell for cell in cells if having[cell] == met][0] for met in (True, False)]
    row = []
    for at in range(many):
        cell = turns[at % 2]
        if block[0] == "alike":
            row.append(_any_record(chart, cell))
        else:
            field = [pair[1] for pair in block[2] if pair[0] == cell][0]
            row.append(_lifted(chart, cell, field, at if block[1] == "up" else many - 1 - at))
    return tuple(row)


def _lifted(chart, cell, field, step):
    """A record of a cell, the value of a field so many steps above where its gap begins."""
    kind, held = _any_record(chart, cell)
    fields = chart.family.fields_of(kind)
    slots = chart.slots[chart.numbers[cell]]
    low, high = _ends_of_gap(slots, chart.places[chart.numbers[cell]][field])
    start = 0
    if low > 0 and slots[low - 1][0] == slots[low][0]:
        start = slots[low - 1][1][0] + CLEAR
    elif high < len(slots) and slots[high][0] == slots[low][0]:
        start = slots[high][1][0] - STEP + CLEAR
    moved = [name for _, _, names in slots[low:high] for name in names]
    far = start + step - held[fields.index(field)]
    return (kind, tuple([value + far if name in moved else value for name, value in zip(fields, held)]))


def _ends_of_gap(slots, slot):
    """The first slot of the gap in which a slot lies, and the one behind its last."""
    low = slot
    while low > 0 and slots[low - 1][0] == slots[slot][0] and not slots[low - 1][1]:
        low = low - 1
    high = slot + 1
    while high < len(slots) and slots[high][0] == slots[slot][0] and not slots[high][1]:
        high = high + 1
    return low, high
