"""Sayers: what says of two records whether the first one is less, alike or greater, told by the cells of a chart.

A *path* tells of a cell what its records are compared by, step after step. A step is `(number, way, field)`: the lesser
number is less; if the numbers are equal and there is a way, the values of the fields are compared that way; then the
next step follows. Who has come to the end is alike. So the blocks of a key make a path for each cell.
"""

from keybehind.cells import narrowed
from keybehind.trees import settled

TURNED_WORDS = {"less": "greater", "alike": "alike", "greater": "less"}


class Comparing:
    """What a comparison says."""

    def __init__(self, chart, comparison):
        self.chart = chart
        self.by_first = [settled(chart, comparison, "a", at) for at in range(len(chart.cells))]

    def tree(self, one, other):
        """What is said of records of two cells, as far as the cells tell."""
        return settled(self.chart, self.by_first[one], "b", other)


class Pathing:
    """What paths say, one for each cell of a chart."""

    def __init__(self, paths):
        self.paths = paths

    def tree(self, one, other):
        """What is said of records of two cells, as far as the cells tell."""
        return tree_of_paths(self.paths[one], self.paths[other])


class Changing:
    """What paths say; but other paths of records that both have their cells among some."""

    def __init__(self, paths, changed_paths, having):
        self.paths = paths
        self.changed_paths = changed_paths
        self.having = having

    def tree(self, one, other):
        """What is said of records of two cells, as far as the cells tell."""
        if self.having[one] and self.having[other]:
            return tree_of_paths(self.changed_paths[one], self.changed_paths[other])
        return tree_of_paths(self.paths[one], self.paths[other])


def tree_of_paths(path, other_path):
    """What two paths say of the records of their cells."""
    steps = []
    tree = "alike"
    for (number, way, field), (other_number, _, other_field) in zip(path, other_path):
        if number != other_number:
            tree = "less" if number < other_number else "greater"
            break
        if way:
            steps.append((way, ("a", field), ("b", other_field)))
    for way, one, other in steps[::-1]:
        first, last = ("less", "greater") if way == "up" else ("greater", "less")
        tree = ("if", ("less", one, other), first, ("if", ("same", one, other), tree, last))
    return tree


def paths_in(node):
    """The path of each cell of a node, by the cells."""
    paths = {}
    # Nodes of keys that are passed may be nested deeper than functions may call each other.
    todo = [node]
    while todo:
        blocks = todo.pop()
        for number, block in enumerate(blocks):
            if block[0] == "alike":
                for cell in block[1]:
                    paths[cell] = (*paths.get(cell, ()), (number, "", ""))
            else:
                for cell, field in block[2]:
                    paths[cell] = (*paths.get(cell, ()), (number, block[1], field))
                todo.append(block[3])
    return paths


def paths_for(chart, key):
    """The paths of a key for a chart that has at least the reads and limits of the key."""
    paths = paths_in(key[2])
    return [paths[narrowed(cell, key[0], key[1])] for cell in chart.cells]
