"""Cells: the kind of a record, and in which order its read fields and the limits lie."""

from keybehind.basics import ascending
from keybehind.errors import TooMany
from keybehind.families import value_in

MOST_CELLS = 100


def cells_of(family, reads, limits):
    """All cells for these reads and limits, ascending."""
    many = number_of_cells(family, reads, limits)
    if many > MOST_CELLS:
        raise TooMany(many)
    cells = []
    for kind in family.names:
        cells.extend([(kind, rows) for rows in _rows_of(measures_read(family, reads, limits, kind))])
    return ascending(cells)


def cell_of(family, reads, limits, record):
    """The cell that a record has."""
    kind = record[0]
    rows = []
    for measure, named, fields in measures_read(family, reads, limits, kind):
        rows.append((measure, _groups_in(family, record, named, fields)))
    return (kind, tuple(rows))


def record_of(family, reads, limits, cell):
    """A record that has this cell."""
    kind, rows = cell
    values = {}
    for _, groups in rows:
        for height, (_, fields) in zip(heights_of(groups), groups):
            for field in fields:
                values[field] = height
    return (kind, tuple([values.get(field, 0) for field in family.fields_of(kind)]))


def narrowed(cell, reads, limits):
    """The cell that a record of this cell has for a part of the reads and limits, both given as keys of a dict."""
    kind, rows = cell
    fewer = []
    for measure, groups in rows:
        kept = []
        for limit, fields in groups:
            named = limit if limit and (measure, limit[0]) in limits else ()
            read = tuple([field for field in fields if (kind, field) in reads])
            if named or read:
                kept.append((named, read))
        if any([fields for _, fields in kept]):
            fewer.append((measure, tuple(kept)))
    return (kind, tuple(fewer))


def widened(cell, measures):
    """The cell for more reads and limits in which new fields lie lowest, new limits highest up to the next old one.

    The measures are those that are read of the kind of the cell, as `measures_read` tells them.
    """
    kind, rows = cell
    held = dict(rows)
    wider = []
    for measure, named, fields in measures:
        groups = list(held.get(measure, ()))
        known = [field for _, group in groups for field in group]
        limits = [limit[0] for limit, _ in groups if limit]
        for limit in [limit for limit in named if limit not in limits]:
            above = [at for at, (old, _) in enumerate(groups) if old and old[0] > limit]
            groups.insert(above[0] if above else len(groups), ((limit,), ()))
        wider.append((measure, (*[((), (field,)) for field in fields if field not in known], *groups)))
    return (kind, tuple(wider))


def number_of_cells(family, reads, limits):
    """How many cells there are, told without making them."""
    many = 0
    for kind in family.names:
        ways = 1
        for _, named, fields in measures_read(family, reads, limits, kind):
            ways = ways * _number_of_orders(len(named), len(fields))
        many = many + ways
    return many


def measures_read(family, reads, limits, kind):
    """For each measure of a read field of the kind: the measure, its limits and these fields."""
    fields = [pair[1] for pair in reads if pair[0] == kind]
    rows = []
    for measure in ascending([family.measure_of(field) for field in fields]):
        named = [pair[1] for pair in limits if pair[0] == measure]
        rows.append((measure, named, [field for field in fields if family.measure_of(field) == measure]))
    return rows


def heights_of(groups):
    """A value for each group, from low to high."""
    named = [limit[0] for limit, _ in groups if limit]
    # The groups ahead of the first limit need room below it; behind a limit there is room enough for steps of one.
    height = (named[0] if named else 0) - len(groups)
    heights = []
    for limit, _ in groups:
        height = limit[0] if limit else height + 1
        heights.append(height)
    return heights


def _number_of_orders(limits, fields):
    """In how many orders so many fields can lie among so many limits."""
    ways_by_groups = {limits: 1}
    for _ in range(fields):
        wider = {}
        for groups in ways_by_groups:
            ways = ways_by_groups[groups]
            wider[groups] = wider.get(groups, 0) + ways * groups
            wider[groups + 1] = wider.get(groups + 1, 0) + ways * (groups + 1)
        ways_by_groups = wider
    return sum(list(ways_by_groups.values()))


def _rows_of(measures):
    """All rows that cells of a kind can have, given what is read of each measure."""
    found = [()]
    for measure, named, fields in measures:
        orders = _orders_of(named, fields)
        found = [(*rows, (measure, groups)) for rows in found for groups in orders]
    return found


def _orders_of(limits, fields):
    """All groups that these fields can make with these limits."""
    orders = [tuple([((limit,), ()) for limit in limits])]
    for field in fields:
        orders = [wider for groups in orders for wider in _with_field(groups, field)]
    return orders


def _with_field(groups, field):
    """The groups with one more field, wherever it can lie."""
    found = []
    for at in range(len(groups) + 1):
        found.append(groups[:at] + (((), (field,)),) + groups[at:])
    for at, (limit, fields) in enumerate(groups):
        found.append(groups[:at] + ((limit, (*fields, field)),) + groups[at + 1:])
    return found


def _groups_in(family, record, limits, fields):
    """The groups that the values of these fields make with these limits."""
    values = {field: value_in(family, record, field) for field in fields}
    groups = []
    for height in ascending([values[field] for field in fields] + limits):
        limit = (height,) if height in limits else ()
        groups.append((limit, tuple([field for field in fields if values[field] == height])))
    return tuple(groups)
