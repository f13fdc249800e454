"""Plain paths: those of the plain key that says what other paths say."""

from keybehind.basics import ascending


def plain_paths(chart, paths):
    """The paths of the plain key for a chart that says what these paths of its cells say."""
    found = [()] * len(chart.cells)
    cells = list(range(len(chart.cells)))
    # Nodes that are to be made: their cells, the number of the step at which these go on, and what is told of each.
    # Paths may have more steps than functions may call each other.
    nodes = [(cells, 0, {cell: () for cell in cells})]
    while nodes:
        cells, step, told = nodes.pop()
        number = 0
        parts = [(cells, step, "")]
        while parts:
            cells, step, way = parts.pop()
            if way:
                below = {}
                for cell in cells:
                    slot = chart.places[cell][paths[cell][step][2]]
                    found[cell] = (*found[cell], (number, way, chart.slots[cell][slot][2][0]))
                    below[cell] = (*told[cell], slot)
                nodes.append((cells, step + 1, below))
                number = number + 1
            elif cells and step == len(paths[cells[0]]):
                for cell in cells:
                    found[cell] = (*found[cell], (number, "", ""))
                number = number + 1
            elif cells:
                parts.extend(_parts_by(chart, paths, cells, step, told)[::-1])
    return found


def position_of(chart, cell, slot, told):
    """Where a slot lies among limits and told slots of its measure: 2k + 1 is on one of them, 2k just below it."""
    position = chart.zones[cell][slot]
    for other in told:
        if other == slot:
            position = position + 1
        elif other < slot and chart.slots[cell][other][0] == chart.slots[cell][slot][0]:
            position = position + 2
    return position


def _parts_by(chart, paths, cells, step, told):
    """The cells parted by one step, in their order; each part goes on behind the step, or is a block by it."""
    groups = {}
    for cell in cells:
        number, way, field = paths[cell][step]
        position = position_of(chart, cell, chart.places[cell][field], told[cell]) if way else 1
        groups.setdefault((number, -position if way == "down" else position), []).append(cell)
    parts = []
    for place in ascending(list(groups)):
        group = groups[place]
        if place[1] % 2:
            # The values are told already, so that they are equal.
            parts.append((group, step + 1, ""))
        else:
            parts.append((group, step, paths[group[0]][step][1]))
    return parts


def node_of(chart, paths):
    """The node that plain paths are made from."""
    return _node(chart, paths, list(range(len(chart.cells))), 0)


def _node(chart, paths, cells, level):
    blocks = {}
    for cell in cells:
        blocks.setdefault(paths[cell][level][0], []).append(cell)
    node = []
    for number in range(len(blocks)):
        block = blocks[number]
        way = paths[block[0]][level][1]
        if way:
            pairs = tuple([(chart.cells[cell], paths[cell][level][2]) for cell in block])
            node.append(("by", way, pairs, _node(chart, paths, block, level + 1)))
        else:
            node.append(("alike", tuple([chart.cells[cell] for cell in block])))
    return tuple(node)
