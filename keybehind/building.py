"""The plain key behind what is said: found by asking about a few records, as the document tells.

If what is said is an order, the node that is found is that of its plain key. If it is none, the node is still one for
these cells, and says what was answered to enough of the questions.
"""

from keybehind.trees import word_in

# Where two cells are compared, these are the heights between two limits or told values: one for all other groups of a
# cell, as only groups of two cells are compared. And that of the limit or told value above them.
LOW = 0
MIDDLE = 1
HIGH = 2
ABOVE = 3
ROOM = 4
# Where records of one cell are compared: how far apart its groups lie, and how far a value is moved.
APART = 3
MOVE = 1


def plain_node(chart, sayer):
    """The node of the plain key for a chart, as a sayer has it."""
    leads = [_leads_in(chart.slots[cell], sayer.tree(cell, cell)) for cell in range(len(chart.cells))]
    return _node(chart, sayer, leads, list(range(len(chart.cells))), 0)


def says_so(chart, sayer, node):
    """Whether an order says the same as the plain key for a chart with this node."""
    return plain_node(chart, sayer) == node


def anchor_beside(slots, told, slot, step):
    """What is met first if one goes up or down from a slot: a limit, the number of a told slot, or nothing."""
    at = slot + step
    while 0 <= at < len(slots) and slots[at][0] == slots[slot][0]:
        if slots[at][1]:
            return ("limit", slots[at][1][0])
        if at in told:
            return ("told", told.index(at))
        at = at + step
    return ()


def gap_of(slots, told, slot):
    """The gap in which a slot lies among the limits and the told slots."""
    return (slots[slot][0], anchor_beside(slots, told, slot, -1), anchor_beside(slots, told, slot, 1))


def spans_at(slots, heights):
    """The spans of all fields, if the slots lie at these heights."""
    return {field: (height, height) for (_, _, fields), height in zip(slots, heights) for field in fields}


def _leads_in(slots, tree):
    """The slots of a cell that count, each with its way, those ahead that lead."""
    row = []
    for at, (_, limit, _) in enumerate(slots):
        word = "alike" if limit else _word_of_move(slots, tree, {at: MOVE})
        if word == "alike":
            continue
        way = 1 if word == "less" else -1
        place = 0
        while place < len(row) and not _leads(slots, tree, (at, way), row[place]):
            place = place + 1
        row.insert(place, (at, way))
    return row


def _leads(slots, tree, one, other):
    """Whether a slot that goes its way outweighs another one that goes against its own."""
    moves = {one[0]: one[1] * MOVE, other[0]: -other[1] * MOVE}
    return _word_of_move(slots, tree, moves) == "less"


def _word_of_move(slots, tree, moves):
    """What is said of a record and of the one that comes from it if some slots are moved."""
    heights = [at * APART for at in range(len(slots))]
    moved = [height + moves.get(at, 0) for at, height in enumerate(heights)]
    return word_in(tree, spans_at(slots, heights), spans_at(slots, moved))


def _node(chart, sayer, leads, cells, level):
    """The node for these cells, of which the slots that lead are told, as many as there are levels above."""
    laid = {cell: _laid(chart.slots[cell], leads[cell], level) for cell in cells}
    blocks = []
    for cell in cells:
        low = 0
        high = len(blocks)
        order = 1
        while low < high and order != 0:
            middle = (low + high) // 2
            order = _order_of(sayer, laid, cell, blocks[middle][0])
            if order < 0:
                high = middle
            elif order > 0:
                low = middle + 1
            else:
                blocks[middle] = (*blocks[middle], cell)
        if order != 0:
            blocks.insert(low, (cell,))
    return tuple([_block(chart, sayer, leads, block, level) for block in blocks])


def _block(chart, sayer, leads, block, level):
    if level == len(leads[block[0]]):
        return ("alike", tuple([chart.cells[cell] for cell in block]))
    pairs = []
    for cell in block:
        slot = leads[cell][level][0]
        pairs.append((chart.cells[cell], chart.slots[cell][slot][2][0]))
    way = "up" if leads[block[0]][level][1] > 0 else "down"
    return ("by", way, tuple(pairs), _node(chart, sayer, leads, block, level + 1))


def _laid(slots, lead, level):
    """What must be known of a cell to compare it: the way and the gap of what leads, and its spans in each zone."""
    told = [slot for slot, _ in lead[:level]]
    leader = ()
    if level < len(lead):
        slot, way = lead[level]
        leader = (way, gap_of(slots, told, slot))
    return (leader, [spans_at(slots, _heights_in(slots, told, zone)) for zone in (LOW, MIDDLE, HIGH)])


def _heights_in(slots, told, zone):
    """Heights of the slots: limits and told ones where they lie for all cells, the others in one zone between them."""
    heights = []
    floor = 0
    for at, (measure, limit, _) in enumerate(slots):
        if at and measure != slots[at - 1][0]:
            floor = 0
        if limit or at in told:
            heights.append(floor + ABOVE)
            floor = floor + ROOM
        else:
            heights.append(floor + zone)
    return heights


def _order_of(sayer, laid, one, other):
    """Whether the records of a cell lie ahead of those of another one (-1), behind them (1), or among them (0)."""
    leader, spans = laid[one]
    other_leader, other_spans = laid[other]
    tree = sayer.tree(one, other)
    above = word_in(tree, spans[MIDDLE], other_spans[HIGH])
    if leader != other_leader:
        return -1 if above == "less" else 1
    if not leader:
        return (-1 if above == "less" else 1) if above != "alike" else 0
    below = word_in(tree, spans[MIDDLE], other_spans[LOW])
    early, late = (above, below) if leader[0] > 0 else (below, above)
    # Who is less where it stands late is less everywhere.
    if late == "less":
        return -1
    return 1 if early == "greater" else 0
