"""Which values are keys, and which of these are plain; any value can be asked about."""

from keybehind.basics import ascending, is_row, is_whole
from keybehind.charts import Chart
from keybehind.conditions import is_limit

WAYS = ("up", "down")


def chart_of_key(family, thing):
    """The chart for a key, or None if a value is no key."""
    if not is_row(thing, 3) or not _are_reads(family, thing[0]) or not _are_limits(family, thing[1]):
        return None
    chart = Chart(family, thing[0], thing[1])
    return chart if _is_node(chart, thing[2]) else None


def is_plain_node(chart, node):
    """Whether the node of a key is that of a plain key."""
    return _is_plain(chart, node, {cell: () for cell in chart.cells})


def _are_reads(family, thing):
    if not isinstance(thing, tuple):
        return False
    return all([_is_read(family, part) for part in thing]) and _is_ascending(thing)


def _is_read(family, thing):
    return is_row(thing, 2) and family.is_kind(thing[0]) and thing[1] in family.fields_of(thing[0])


def _are_limits(family, thing):
    if not isinstance(thing, tuple):
        return False
    return all([_is_named(family, part) for part in thing]) and _is_ascending(thing)


def _is_named(family, thing):
    return is_row(thing, 2) and thing[0] in family.measures and is_limit(thing[1])


def _is_ascending(row):
    return all([row[at] < row[at + 1] for at in range(len(row) - 1)])


def _is_node(chart, thing):
    """Whether a value is a node for all cells of a chart."""
    # A value may be nested deeper than functions may call each other.
    todo = [(thing, tuple(range(len(chart.cells))))]
    while todo:
        node, due = todo.pop()
        if not isinstance(node, tuple):
            return False
        found = []
        for block in node:
            cells = _cells_of_block(chart, block)
            if not cells:
                return False
            found.extend(cells)
            if block[0] == "by":
                todo.append((block[3], cells))
        if len(found) != len(due) or ascending(found) != due:
            return False
    return True


def _cells_of_block(chart, thing):
    """The numbers of the cells in a block, or () if a value is no block, whatever its node below is."""
    if is_row(thing, 2) and thing[0] == "alike" and isinstance(thing[1], tuple):
        return _numbers_of(chart, thing[1])
    if not is_row(thing, 4) or thing[0] != "by" or thing[1] not in WAYS or not isinstance(thing[2], tuple):
        return ()
    if not all([is_row(pair, 2) for pair in thing[2]]):
        return ()
    cells = _numbers_of(chart, [pair[0] for pair in thing[2]])
    fields = [pair[1] for pair in thing[2]]
    if not all([isinstance(field, str) and field in chart.places[cell] for cell, field in zip(cells, fields)]):
        return ()
    return cells if cells and len(set([chart.family.measure_of(field) for field in fields])) == 1 else ()


def _numbers_of(chart, things):
    """The numbers of cells, or () if they are not cells, ascending."""
    if not all([_is_like_cell(thing) for thing in things]):
        return ()
    numbers = [chart.numbers.get(thing, -1) for thing in things]
    return tuple(numbers) if -1 not in numbers and _is_ascending(numbers) else ()


def _is_like_cell(thing):
    """Whether a value is made as cells are, so that it can be looked for; in it no bool stands for an integer."""
    if not is_row(thing, 2) or not isinstance(thing[0], str) or not isinstance(thing[1], tuple):
        return False
    return all([_is_like_row(part) for part in thing[1]])


def _is_like_row(thing):
    if not is_row(thing, 2) or not isinstance(thing[0], str) or not isinstance(thing[1], tuple):
        return False
    return all([_is_like_group(part) for part in thing[1]])


def _is_like_group(thing):
    if not is_row(thing, 2) or not isinstance(thing[0], tuple) or not isinstance(thing[1], tuple):
        return False
    return all([is_whole(part) for part in thing[0]]) and all([isinstance(part, str) for part in thing[1]])


def _is_plain(chart, node, told):
    """Whether a node is plain if these slots of its cells are told."""
    for block in node:
        if block[0] == "alike":
            continue
        below = {}
        gaps = []
        for cell, field in block[2]:
            at = chart.numbers[cell]
            slot = chart.places[at][field]
            _, limit, fields = chart.slots[at][slot]
            if limit or slot in told[cell] or field != fields[0]:
                return False
            gaps.append(_gap_of(chart.slots[at], told[cell], slot))
            below[cell] = (*told[cell], slot)
        if not all([gap == gaps[0] for gap in gaps]) or not _is_plain(chart, block[3], below):
            return False
    return True


def _gap_of(slots, told, slot):
    """The gap in which a slot lies among the limits and the told slots."""
    return (slots[slot][0], _anchor_beside(slots, told, slot, -1), _anchor_beside(slots, told, slot, 1))


def _anchor_beside(slots, told, slot, step):
    """What is met first if one goes up or down from a slot: a limit, the number of a told slot, or nothing."""
    at = slot + step
    while 0 <= at < len(slots) and slots[at][0] == slots[slot][0]:
        if slots[at][1]:
            return ("limit", slots[at][1][0])
        if at in told:
            return ("told", told.index(at))
        at = at + step
    return ()
