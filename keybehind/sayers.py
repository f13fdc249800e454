"""Sayers: what says of two records whether the first one is less, alike or greater, told by the cells of a chart.

Each sayer has `possible` and `decided`, for each word the rows of the pairs of cells of which it may say this word, and
of those of which it says it for certain; and `tree`, what is left to be asked of two cells. And `firsts` tells for each
cell the first one that is like it: the same is said of both, beside whatever cell.

A *path* tells of a cell what its records are compared by, step after step. A step is `(number, way, field)`: the lesser
number is less; if the numbers are equal and there is a way, the values of the fields are compared that way; then the
next step follows. Who has come to the end is alike. So the blocks of a key make a path for each cell. For a chart,
paths are a list with the path of each cell; those of a plain key are *plain*.
"""

from keybehind.cells import narrowed
from keybehind.deciding import decided, noted, possible
from keybehind.reading import tests_in
from keybehind.trees import is_of_kind, settled

TURNED_WORDS = {"less": "greater", "alike": "alike", "greater": "less"}


class Comparing:
    """What a comparison says."""

    def __init__(self, chart, comparison):
        self.chart = chart
        self.comparison = comparison
        self._noted = noted(chart, comparison)
        self.possible = possible(chart, self._noted)
        self.decided = decided(self.possible)

    def tree(self, one, other):
        """What is said of records of two cells."""
        return settled(self._noted, one, other)

    def firsts(self):
        """For each cell the first one that is like it."""
        family = self.chart.family
        asked = [test for test in tests_in(self.comparison) if test[0] in ("is", "kind")]
        signs = {kind: tuple([is_of_kind(family, test, kind) for test in asked]) for kind in family.names}
        return firsts_of([(signs[kind], rows) for kind, rows in self.chart.cells])


class Pathing:
    """What plain paths say."""

    def __init__(self, chart, paths):
        self.chart = chart
        self.paths = paths
        self.possible = _possible_by_paths(paths)
        self.decided = decided(self.possible)

    def tree(self, one, other):
        """What is said of records of two cells."""
        return tree_of_paths(self.paths[one], self.paths[other])

    def firsts(self):
        """For each cell the first one that is like it."""
        return firsts_of([(path, rows) for path, (_, rows) in zip(self.paths, self.chart.cells)])


class Changing:
    """What plain paths say; but other ones of records that both have their cells in a set."""

    def __init__(self, chart, paths, changed_paths, having):
        self.chart = chart
        self.paths = paths
        self.changed_paths = changed_paths
        self.having = having
        rows = _possible_by_paths(paths)
        changed = _possible_by_paths(changed_paths)
        self.possible = {word: [_joined(having, at, row, changed[word][at]) for at, row in enumerate(rows[word])]
                         for word in rows}
        self.decided = decided(self.possible)

    def tree(self, one, other):
        """What is said of records of two cells."""
        if self.having >> one & self.having >> other & 1:
            return tree_of_paths(self.changed_paths[one], self.changed_paths[other])
        return tree_of_paths(self.paths[one], self.paths[other])

    def firsts(self):
        """For each cell the first one that is like it."""
        return firsts_of([(self.having >> at & 1, path, self.changed_paths[at], self.chart.cells[at][1])
                           for at, path in enumerate(self.paths)])


def firsts_of(looks):
    """For each of some values the number of the first one that is equal to it."""
    firsts = {}
    for at, look in enumerate(looks):
        firsts.setdefault(look, at)
    return [firsts[look] for look in looks]


def certain(sayer, word, cell):
    """The set of the cells of which, beside one cell, a sayer says a word for certain."""
    rows = sayer.decided.get(word, ())
    return rows[cell] if rows else 0


def maybe(sayer, word, cell):
    """The set of the cells of which, beside one cell, a sayer may say a word."""
    rows = sayer.possible.get(word, ())
    return rows[cell] if rows else 0


def tree_of_paths(path, other_path):
    """What two paths say of the records of their cells."""
    steps = []
    tree = "alike"
    for (number, way, field), (other_number, _, other_field) in zip(path, other_path):
        if number != other_number:
            tree = "less" if number < other_number else "greater"
            break
        if way:
            steps.append((way, ("a", field), ("b", other_field)))
    for way, one, other in steps[::-1]:
        first, last = ("less", "greater") if way == "up" else ("greater", "less")
        tree = ("if", ("less", one, other), first, ("if", ("same", one, other), tree, last))
    return tree


def paths_in(node):
    """The path of each cell of a node, by the cells."""
    paths = {}
    # Nodes of keys that are passed may be nested deeper than functions may call each other.
    todo = [node]
    while todo:
        blocks = todo.pop()
        for number, block in enumerate(blocks):
            if block[0] == "alike":
                for cell in block[1]:
                    paths[cell] = (*paths.get(cell, ()), (number, "", ""))
            else:
                for cell, field in block[2]:
                    paths[cell] = (*paths.get(cell, ()), (number, block[1], field))
                todo.append(block[3])
    return paths


def paths_for(chart, key):
    """The paths of a key for a chart that has at least the reads and limits of the key."""
    paths = paths_in(key[2])
    if (chart.reads, chart.limits) == key[:2]:
        return [paths[cell] for cell in chart.cells]
    reads = {read: True for read in key[0]}
    limits = {limit: True for limit in key[1]}
    return [paths[narrowed(cell, reads, limits)] for cell in chart.cells]


def _possible_by_paths(paths):
    """For each word, the rows of the pairs of cells of which plain paths say it, or may say it."""
    sets = []
    for at, path in enumerate(paths):
        number = path[0][0]
        while number >= len(sets):
            sets.append(0)
        sets[number] = sets[number] | 1 << at
    ahead = []
    passed = 0
    for found in sets:
        ahead.append(passed)
        passed = passed | found
    behind = [passed ^ low ^ found for low, found in zip(ahead, sets)]
    # Records of one block may be less, alike or greater if there is a way.
    here = [sets[path[0][0]] if path[0][1] else 0 for path in paths]
    return {"less": [behind[path[0][0]] | open_ones for path, open_ones in zip(paths, here)],
            "alike": [sets[path[0][0]] for path in paths],
            "greater": [ahead[path[0][0]] | open_ones for path, open_ones in zip(paths, here)]}


def _joined(having, at, row, changed):
    """A row for one cell; the other row counts where both cells are in a set."""
    return changed & having | row & ~having if having >> at & 1 else row
