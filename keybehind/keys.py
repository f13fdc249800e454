"""Keys: which values are some, what they say, and other keys that say the same."""

from keybehind.cells import cell_of
from keybehind.charts import Chart
from keybehind.comparing import UNLIKE, pair_said
from keybehind.families import value_in
from keybehind.normals import normal_key
from keybehind.plainpaths import node_of, plain_paths
from keybehind.reading import together
from keybehind.sayers import Pathing, paths_for, paths_in
from keybehind.shapes import chart_of_key, is_plain_node


def is_key(family, thing):
    """Whether a value is a key."""
    return chart_of_key(family, thing) is not None


def is_plain(family, thing):
    """Whether a value is a plain key."""
    chart = chart_of_key(family, thing)
    return chart is not None and is_plain_node(chart, thing[2])


def is_normal(family, thing):
    """Whether a value is a normal key."""
    return is_plain(family, thing) and normal(family, thing) == thing


def key_says(family, key, one, other):
    """What a key says of two records."""
    paths = paths_in(key[2])
    place = place_on(family, paths[cell_of(family, key[0], key[1], one)], one)
    other_place = place_on(family, paths[cell_of(family, key[0], key[1], other)], other)
    if place == other_place:
        return "alike"
    return "less" if place < other_place else "greater"


def normal(family, key):
    """The normal key that says the same as a key."""
    chart = Chart(family, key[0], key[1])
    return normal_key(chart, plain_paths(chart, paths_for(chart, key)))


def plain(family, key, reads, limits):
    """The plain key that says the same, for what the key reads and names and these reads and limits together."""
    chart = chart_for(family, key, (reads, limits))
    return (chart.reads, chart.limits, node_of(chart, plain_paths(chart, paths_for(chart, key))))


def parting(family, key, other):
    """Two records of which two keys do not say the same, or None."""
    chart = chart_for(family, key, other)
    sayers = [sayer_for(chart, part) for part in (key, other)]
    return pair_said(chart, sayers[0], sayers[1], UNLIKE, chart.full)


def chart_for(family, *parts):
    """The chart for several pairs of reads and limits together; keys may stand for such pairs."""
    reads, limits = together(*parts)
    return Chart(family, reads, limits)


def sayer_for(chart, key):
    """What a key says, for a chart that has at least its reads and limits."""
    return Pathing(chart, plain_paths(chart, paths_for(chart, key)))


def place_on(family, path, record):
    """The tuple by which a record with this path is sorted."""
    told = []
    for number, way, field in path:
        told.append(number)
        if way:
            value = value_in(family, record, field)
            told.append(value if way == "up" else -value)
    return tuple(told)
