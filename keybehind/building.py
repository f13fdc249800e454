"""The plain paths behind what is said: found by asking about a few records, as the document tells.

If what is said is an order, the paths that are found are those of its plain key. If it is none, they are still paths of
a key for these cells, which says what was answered to enough of the questions.
"""

from keybehind.plainpaths import position_of
from keybehind.trees import word_in

# Where two cells are compared, these are the heights between two limits or told values: one for all other groups of a
# cell, as only groups of two cells are compared. And that of the limit or told value above them.
LOW = 0
MIDDLE = 1
HIGH = 2
ABOVE = 3
ROOM = 4
# Where records of one cell are compared: how far apart its groups lie, and how far a value is moved.
APART = 3
MOVE = 1


def said_of(sayer, one, other):
    """What a sayer says of two cells: a word, or a tree if it is not certain."""
    for word in sayer.decided:
        if sayer.decided[word][one] >> other & 1:
            return word
    return sayer.tree(one, other)


def leads_of(chart, trees):
    """For cells their slots that count, each with its way, those ahead that lead; given what is said of each alone."""
    return {cell: _leads_in(chart.slots[cell], tree) if isinstance(tree, tuple) else () for cell, tree in trees.items()}


def found_paths(chart, sayer, leads, cells, level):
    """The paths of some cells, by the cells; as many slots that lead as there are levels above are told."""
    paths = {}
    for number, block in enumerate(_blocks(chart, sayer, leads, cells, level)):
        if level == len(leads[block[0]]):
            for cell in block:
                paths[cell] = ((number, "", ""),)
            continue
        way = "up" if leads[block[0]][level][1] > 0 else "down"
        below = found_paths(chart, sayer, leads, block, level + 1)
        for cell in block:
            slot = leads[cell][level][0]
            paths[cell] = ((number, way, chart.slots[cell][slot][2][0]), *below[cell])
    return paths


def spans_at(slots, heights):
    """The spans of all fields, if the slots lie at these heights."""
    return {field: (height, height) for (_, _, fields), height in zip(slots, heights) for field in fields}


def _leads_in(slots, tree):
    """The slots of a cell that count, each with its way, those ahead that lead."""
    row = []
    for at, (_, limit, _) in enumerate(slots):
        word = "alike" if limit else _word_of_move(slots, tree, {at: MOVE})
        if word == "alike":
            continue
        way = 1 if word == "less" else -1
        place = 0
        while place < len(row) and not _leads(slots, tree, (at, way), row[place]):
            place = place + 1
        row.insert(place, (at, way))
    return row


def _leads(slots, tree, one, other):
    """Whether a slot that goes its way outweighs another one that goes against its own."""
    moves = {one[0]: one[1] * MOVE, other[0]: -other[1] * MOVE}
    return _word_of_move(slots, tree, moves) == "less"


def _word_of_move(slots, tree, moves):
    """What is said of a record and of the one that comes from it if some slots are moved."""
    heights = [at * APART for at in range(len(slots))]
    moved = [height + moves.get(at, 0) for at, height in enumerate(heights)]
    return word_in(tree, spans_at(slots, heights), spans_at(slots, moved))


def _blocks(chart, sayer, leads, cells, level):
    """The cells in rows, block by block."""
    told = {cell: [slot for slot, _ in leads[cell][:level]] for cell in cells}
    leaders = {cell: _leader(chart, leads[cell], told[cell], cell, level) for cell in cells}
    blocks = []
    for cell in cells:
        low = 0
        high = len(blocks)
        order = 1
        while low < high and order != 0:
            middle = (low + high) // 2
            other = blocks[middle][0]
            order = _order_of(chart, sayer, (cell, other), (leaders[cell], leaders[other]), (told[cell], told[other]))
            if order < 0:
                high = middle
            elif order > 0:
                low = middle + 1
            else:
                blocks[middle] = (*blocks[middle], cell)
        if order != 0:
            blocks.insert(low, (cell,))
    return blocks


def _leader(chart, lead, told, cell, level):
    """The way and the gap of the slot of a cell that leads, or ()."""
    if level == len(lead):
        return ()
    slot, way = lead[level]
    return (way, chart.slots[cell][slot][0], position_of(chart, cell, slot, told))


def _order_of(chart, sayer, cells, leaders, told):
    """Whether the records of a cell lie ahead of those of another one (-1), behind them (1), or among them (0)."""
    tree = said_of(sayer, cells[0], cells[1])
    if isinstance(tree, str):
        above = tree
        below = tree
    else:
        spans = _spans_in(chart.slots[cells[0]], told[0], MIDDLE)
        above = word_in(tree, spans, _spans_in(chart.slots[cells[1]], told[1], HIGH))
        below = word_in(tree, spans, _spans_in(chart.slots[cells[1]], told[1], LOW))
    if leaders[0] != leaders[1]:
        return -1 if above == "less" else 1
    if not leaders[0]:
        return (-1 if above == "less" else 1) if above != "alike" else 0
    early, late = (above, below) if leaders[0][0] > 0 else (below, above)
    # Who is less where it stands late is less everywhere.
    if late == "less":
        return -1
    return 1 if early == "greater" else 0


def _spans_in(slots, told, zone):
    """Spans of the fields: limits and told slots where they lie for all cells, the others in one zone between them."""
    heights = []
    floor = 0
    for at, (measure, limit, _) in enumerate(slots):
        if at and measure != slots[at - 1][0]:
            floor = 0
        if limit or at in told:
            heights.append(floor + ABOVE)
            floor = floor + ROOM
        else:
            heights.append(floor + zone)
    return spans_at(slots, heights)
