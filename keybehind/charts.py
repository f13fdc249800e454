"""Charts: all cells for some reads and limits, with what is asked of them again and again."""

from keybehind.cells import cells_of


class Chart:
    """The cells for some reads and limits. A cell goes by its number, a group by its number in its cell, a *slot*."""

    def __init__(self, family, reads, limits):
        self.family = family
        self.reads = reads
        self.limits = limits
        self.cells = cells_of(family, reads, limits)
        self.numbers = {cell: at for at, cell in enumerate(self.cells)}
        self.slots = [_slots_of(cell) for cell in self.cells]
        self.places = [_places_of(slots) for slots in self.slots]
        self.marks = [_marks_of(slots) for slots in self.slots]


def _slots_of(cell):
    """The groups of a cell, measure by measure: the measure, the limit as in the cell, and the fields."""
    return [(measure, limit, fields) for measure, groups in cell[1] for limit, fields in groups]


def _places_of(slots):
    """The slot of each field."""
    return {field: at for at, (_, _, fields) in enumerate(slots) for field in fields}


def _marks_of(slots):
    """The slot of each limit."""
    return {(measure, limit[0]): at for at, (measure, limit, _) in enumerate(slots) if limit}
