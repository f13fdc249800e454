"""What is common to two orders, told from their plain keys for one chart."""

from keybehind.basics import ascending


def common_node(node, other):
    """The node of what is common to two nodes of plain keys that have the same cells."""
    blocks = []
    at = 0
    beside = 0
    while at < len(node):
        end, other_end = _ends_together(node, at, other, beside)
        blocks.append(_common_block(node[at:end], other[beside:other_end]))
        at = end
        beside = other_end
    return tuple(blocks)


def turned_node(node):
    """The node of the order that turns what a node says."""
    turned = []
    for block in node[::-1]:
        if block[0] == "alike":
            turned.append(block)
        else:
            turned.append(("by", "down" if block[1] == "up" else "up", block[2], turned_node(block[3])))
    return tuple(turned)


def cells_in(block):
    """The cells of a block."""
    return list(block[1]) if block[0] == "alike" else [pair[0] for pair in block[2]]


def _ends_together(node, at, other, beside):
    """Where the next blocks of both nodes end that have the same cells together."""
    cells = cells_in(node[at])
    other_cells = cells_in(other[beside])
    end = at + 1
    other_end = beside + 1
    while ascending(cells) != ascending(other_cells):
        if len(cells) <= len(other_cells):
            cells = [*cells, *cells_in(node[end])]
            end = end + 1
        else:
            other_cells = [*other_cells, *cells_in(other[other_end])]
            other_end = other_end + 1
    return end, other_end


def _common_block(blocks, others):
    """One block for blocks of two nodes that have the same cells together."""
    # Blocks with the same pairs have the same cells, so each is the only one here.
    if blocks[0][0] == others[0][0] == "by" and blocks[0][1:3] == others[0][1:3]:
        return ("by", blocks[0][1], blocks[0][2], common_node(blocks[0][3], others[0][3]))
    return ("alike", ascending([cell for block in blocks for cell in cells_in(block)]))
