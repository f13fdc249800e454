"""Normal keys: what is read and named without need is left out."""

from keybehind.cells import measures_read, widened
from keybehind.charts import Chart
from keybehind.plainpaths import node_of, plain_paths


def normal_key(chart, paths):
    """The normal key that says what plain paths for a chart say."""
    needless = [pair for pair in chart.reads if not _matters(chart, paths, pair)]
    if needless:
        reads = tuple([pair for pair in chart.reads if pair not in needless])
        chart, paths = _narrower(chart, paths, reads, chart.limits)
    needless = [pair for pair in chart.limits if not _is_needed(chart, paths, pair)]
    if needless:
        limits = tuple([pair for pair in chart.limits if pair not in needless])
        chart, paths = _narrower(chart, paths, chart.reads, limits)
    return (chart.reads, chart.limits, node_of(chart, paths))


def _narrower(chart, paths, reads, limits):
    """The chart for fewer reads and limits, and its plain paths: what is left out lies where it tells nothing."""
    narrow = Chart(chart.family, reads, limits)
    wide = {kind: measures_read(chart.family, chart.reads, chart.limits, kind) for kind in chart.family.names}
    moved = [paths[chart.numbers[widened(cell, wide[cell[0]])]] for cell in narrow.cells]
    return narrow, plain_paths(narrow, moved)


def _matters(chart, paths, pair):
    """Whether records that differ in this field of this kind alone are not always alike."""
    kind, field = pair
    kin = [at for at, cell in enumerate(chart.cells) if cell[0] == kind]
    path = paths[kin[0]]
    if not path[0][1] and all([paths[at] == path for at in kin]):
        return False
    measure = chart.family.measure_of(field)
    for at in kin:
        path = paths[chart.numbers[_lowered(chart.cells[at], measure, field)]]
        # Plain paths that say the same are the same, but a field may have come to others.
        if field in [step[2] for step in path] or _led(chart, at, path) != paths[at]:
            return True
    return False


def _led(chart, cell, path):
    """A path with the least fields of the groups in which its fields are in a cell."""
    steps = []
    for number, way, field in path:
        steps.append((number, way, chart.slots[cell][chart.places[cell][field]][2][0] if way else ""))
    return tuple(steps)


def _is_needed(chart, paths, pair):
    """Whether something else is said of some records if their values move past this limit together."""
    moved = []
    for at, cell in enumerate(chart.cells):
        path = paths[chart.numbers[_raised(cell, pair)]] if _is_passed(chart, at, pair) else paths[at]
        if path != paths[at] and not path[0][1]:
            return True
        moved.append(path)
    return moved != paths and plain_paths(chart, moved) != paths


def _is_passed(chart, cell, pair):
    """Whether a limit moves past a value of a cell if it moves up to just below the next one."""
    mark = chart.marks[pair]
    for slot in list(chart.places[cell].values()):
        if chart.slots[cell][slot][0] == pair[0] and mark <= chart.zones[cell][slot] <= mark + 1:
            return True
    return False


def _lowered(cell, measure, field):
    """The cell in which a field lies below all others of its measure."""
    rows = []
    for name, groups in cell[1]:
        if name == measure:
            groups = (((), (field,)), *_without_field(groups, field))
        rows.append((name, groups))
    return (cell[0], tuple(rows))


def _without_field(groups, field):
    fewer = []
    for limit, fields in groups:
        if field in fields:
            fields = tuple([part for part in fields if part != field])
        if limit or fields:
            fewer.append((limit, fields))
    return fewer


def _raised(cell, pair):
    """The cell in which a limit lies just below the next one of its measure, above all fields between them."""
    kind, rows = cell
    raised = []
    for measure, groups in rows:
        if measure == pair[0]:
            groups = _with_raised(groups, pair[1])
        raised.append((measure, groups))
    return (kind, tuple(raised))


def _with_raised(groups, limit):
    above = [at for at, (named, _) in enumerate(groups) if named and named[0] > limit]
    end = above[0] if above else len(groups)
    below = []
    for named, fields in groups[:end]:
        if named != (limit,):
            below.append((named, fields))
        elif fields:
            below.append(((), fields))
    return (*below, ((limit,), ()), *groups[end:])
