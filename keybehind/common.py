"""What is common to two orders, told from their plain paths for one chart; and orders turned round."""

from keybehind.charts import bits_in


def common_paths(paths, other_paths):
    """Paths of what is common to two orders, by the numbers of the cells."""
    return _common(paths, other_paths, list(range(len(paths))), 0)


def turned_node(node):
    """The node of the order that turns what a node says."""
    turned = []
    for block in node[::-1]:
        if block[0] == "alike":
            turned.append(block)
        else:
            turned.append(("by", "down" if block[1] == "up" else "up", block[2], turned_node(block[3])))
    return tuple(turned)


def cells_in(block):
    """The cells of a block."""
    return list(block[1]) if block[0] == "alike" else [pair[0] for pair in block[2]]


def _common(paths, other_paths, cells, level):
    """The same for cells that stand in the same blocks of both down to a level."""
    blocks = _blocks_at(paths, cells, level)
    others = _blocks_at(other_paths, cells, level)
    found = {}
    number = 0
    at = 0
    beside = 0
    while at < len(blocks):
        together, end, other_end = _together(blocks, at, others, beside)
        group = bits_in(together)
        way = paths[group[0]][level][1]
        # Who has the same steps here stands in one block of each, and goes on with the nodes below.
        same = way and end == at + 1 and other_end == beside + 1
        if same and all([paths[cell][level][1:] == other_paths[cell][level][1:] for cell in group]):
            below = _common(paths, other_paths, group, level + 1)
            for cell in group:
                found[cell] = ((number, way, paths[cell][level][2]), *below[cell])
        else:
            for cell in group:
                found[cell] = ((number, "", ""),)
        number = number + 1
        at = end
        beside = other_end
    return found


def _blocks_at(paths, cells, level):
    """The set of the cells of each block of a node."""
    blocks = {}
    for cell in cells:
        number = paths[cell][level][0]
        blocks[number] = blocks.get(number, 0) | 1 << cell
    return [blocks[number] for number in range(len(blocks))]


def _together(blocks, at, others, beside):
    """The cells of the next blocks of both nodes that have the same cells together, and where these blocks end."""
    mine = blocks[at]
    yours = others[beside]
    end = at + 1
    other_end = beside + 1
    while mine != yours:
        if yours & ~mine:
            mine = mine | blocks[end]
            end = end + 1
        else:
            yours = yours | others[other_end]
            other_end = other_end + 1
    return mine, end, other_end
