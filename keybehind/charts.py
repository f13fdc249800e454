"""Charts: all cells for some reads and limits, with what is asked of them again and again."""

from keybehind.cells import cells_of


class Chart:
    """The cells for some reads and limits. A cell goes by its number, a group by its number in its cell, a *slot*.

    The *zone* of a slot tells where it lies among the limits of its measure: 2k + 1 is on limit k, 2k just below it.
    Sets of cells are integers: bit k stands for cell k.
    """

    def __init__(self, family, reads, limits):
        self.family = family
        self.reads = reads
        self.limits = limits
        self.cells = cells_of(family, reads, limits)
        self.full = (1 << len(self.cells)) - 1
        self.numbers = {cell: at for at, cell in enumerate(self.cells)}
        self.slots = [_slots_of(cell) for cell in self.cells]
        self.places = [_places_of(slots) for slots in self.slots]
        self.zones = [_zones_of(slots) for slots in self.slots]
        self.marks = _marks_of(limits)


def bits_in(cells):
    """The numbers of the cells in a set, ascending."""
    found = []
    while cells:
        at = lowest_in(cells)
        found.append(at)
        cells = cells ^ (1 << at)
    return found


def set_of(flags):
    """The set of the cells with a flag that is true."""
    found = 0
    bit = 1
    for flag in flags:
        if flag:
            found = found | bit
        bit = bit << 1
    return found


def lowest_in(cells):
    """The number of the first cell of a set that is not empty."""
    return (cells & -cells).bit_length() - 1


def _slots_of(cell):
    """The groups of a cell, measure by measure: the measure, the limit as in the cell, and the fields."""
    return [(measure, limit, fields) for measure, groups in cell[1] for limit, fields in groups]


def _places_of(slots):
    """The slot of each field."""
    return {field: at for at, (_, _, fields) in enumerate(slots) for field in fields}


def _zones_of(slots):
    """The zone of each slot."""
    zones = []
    zone = 0
    beside = ""
    for measure, limit, _ in slots:
        if measure != beside:
            zone = 0
            beside = measure
        zones.append(zone + 1 if limit else zone)
        if limit:
            zone = zone + 2
    return zones


def _marks_of(limits):
    """The zone of each limit."""
    marks = {}
    zone = 1
    beside = ""
    for measure, limit in limits:
        zone = zone + 2 if measure == beside else 1
        beside = measure
        marks[(measure, limit)] = zone
    return marks
