"""Normal keys: what is read and named without need is left out."""

from keybehind.building import plain_node, says_so
from keybehind.cells import narrowed
from keybehind.charts import Chart
from keybehind.sayers import Pathing, paths_in


def normal_key(chart, node):
    """The normal key that says what the plain key for a chart with this node says."""
    paths = paths_in(node)
    needless = [pair for pair in chart.reads if not _matters(chart, node, paths, pair)]
    if needless:
        chart, node = _without_reads(chart, paths, needless)
        paths = paths_in(node)
    needless = [pair for pair in chart.limits if not _is_needed(chart, node, paths, pair)]
    if needless:
        chart, node = _without_limits(chart, paths, needless)
    return (chart.reads, chart.limits, node)


def _matters(chart, node, paths, pair):
    """Whether records that differ in this field of this kind alone are not always alike."""
    kind, field = pair
    moved = []
    for cell in chart.cells:
        path = paths[_lowered(chart.family, cell, field) if cell[0] == kind else cell]
        if cell[0] == kind and field in [step[2] for step in path]:
            return True
        moved.append(path)
    return not says_so(chart, Pathing(moved), node)


def _is_needed(chart, node, paths, pair):
    """Whether something else is said of some records if their values move past this limit together."""
    moved = [_raised(cell, pair) for cell in chart.cells]
    if moved == list(chart.cells):
        return False
    return not says_so(chart, Pathing([paths[cell] for cell in moved]), node)


def _without_reads(chart, paths, needless):
    """The chart without some pairs that do not matter, and the node for it."""
    moved = {}
    for cell in chart.cells:
        low = cell
        for kind, field in needless:
            if kind == cell[0]:
                low = _lowered(chart.family, low, field)
        moved[cell] = low
    reads = tuple([pair for pair in chart.reads if pair not in needless])
    return _narrower(chart, paths, moved, reads, chart.limits)


def _without_limits(chart, paths, needless):
    """The chart without some limits that are not needed, and the node for it."""
    moved = {}
    for cell in chart.cells:
        low = cell
        # From high to low: so of limits beside one another each one passes all values between them.
        for pair in needless[::-1]:
            low = _raised(low, pair)
        moved[cell] = low
    limits = tuple([pair for pair in chart.limits if pair not in needless])
    return _narrower(chart, paths, moved, chart.reads, limits)


def _narrower(chart, paths, moved, reads, limits):
    """The chart for fewer reads and limits, and its node: records go by the path of the cell to which they move."""
    fewer = {narrowed(cell, reads, limits): paths[moved[cell]] for cell in chart.cells}
    narrow = Chart(chart.family, reads, limits)
    return (narrow, plain_node(narrow, Pathing([fewer[cell] for cell in narrow.cells])))


def _lowered(family, cell, field):
    """The cell in which a field lies below all others of its measure."""
    kind, rows = cell
    lowered = []
    for measure, groups in rows:
        if measure == family.measure_of(field):
            groups = (((), (field,)), *_without_field(groups, field))
        lowered.append((measure, groups))
    return (kind, tuple(lowered))


def _without_field(groups, field):
    fewer = [(limit, tuple([part for part in fields if part != field])) for limit, fields in groups]
    return [(limit, fields) for limit, fields in fewer if limit or fields]


def _raised(cell, pair):
    """The cell in which a limit lies just below the next one of its measure, above all fields between them."""
    kind, rows = cell
    raised = []
    for measure, groups in rows:
        if measure == pair[0]:
            groups = _with_raised(groups, pair[1])
        raised.append((measure, groups))
    return (kind, tuple(raised))


def _with_raised(groups, limit):
    above = [at for at, (named, _) in enumerate(groups) if named and named[0] > limit]
    end = above[0] if above else len(groups)
    below = []
    for named, fields in groups[:end]:
        if named != (limit,):
            below.append((named, fields))
        elif fields:
            below.append(((), fields))
    return (*below, ((limit,), ()), *groups[end:])
