"""Orders: comparisons that are none but orders, as values."""

from keybehind.basics import ascending
from keybehind.breaking import verdict
from keybehind.cells import cell_of
from keybehind.common import common_paths, turned_node
from keybehind.comparing import NOT_LESS, OPPOSITE, UNLIKE, pair_said
from keybehind.conditions import is_condition
from keybehind.errors import BadCondition, BadKey, Broken, NoField, NoKind, NotOrder, NotRecord, Opposite, OtherFamily
from keybehind.judging import judge
from keybehind.deciding import cells_with
from keybehind.keys import chart_for, is_key, normal, place_on
from keybehind.normals import normal_key
from keybehind.plainpaths import plain_paths
from keybehind.reading import read_and_named, reads_of
from keybehind.sayers import Changing, Pathing, paths_for, paths_in


class Order:
    """An order of the records of a family."""

    def __init__(self, family, comparison):
        word, found = judge(family, comparison)
        if word == "broken":
            raise NotOrder(found) from Broken(found)
        self.family = family
        self.key = found
        self.reads = found[0]
        self.limits = found[1]
        self._paths = paths_in(found[2])

    def __eq__(self, other):
        return isinstance(other, Order) and self.family == other.family and self.key == other.key

    @classmethod
    def of(cls, family, key):
        """The order by a key."""
        if not is_key(family, key):
            raise BadKey(key)
        return order_by(family, normal(family, key))

    @classmethod
    def by(cls, family, *fields):
        """The order by fields, one after the other."""
        wishes = _wishes(family, fields)
        chart = chart_for(family, (_reads_of_wishes(family, wishes), ()))
        return _order_on(chart, _paths_by(chart, wishes))

    @classmethod
    def by_kinds(cls, family, *kinds):
        """The order by the first one of these kinds that a record is an heir of."""
        for kind in kinds:
            if not family.is_kind(kind):
                raise NoKind(kind)
        chart = chart_for(family)
        paths = []
        for name, _ in chart.cells:
            numbers = [at for at, kind in enumerate(kinds) if family.is_heir(name, kind)]
            paths.append(((numbers[0] if numbers else len(kinds), "", ""),))
        return _order_on(chart, paths)

    def __call__(self, one, other):
        for record in (one, other):
            if not self.family.is_record(record):
                raise NotRecord(record)
        place = self.place(one)
        other_place = self.place(other)
        if place == other_place:
            return "alike"
        return "less" if place < other_place else "greater"

    def place(self, record):
        """The tuple by which a record is sorted."""
        cell = cell_of(self.family, self.reads, self.limits, record)
        return place_on(self.family, self._paths[cell], record)

    def row(self, *records):
        """The records, sorted; those that are alike stay as they stand."""
        for record in records:
            if not self.family.is_record(record):
                raise NotRecord(record)
        places = ascending([(self.place(record), at) for at, record in enumerate(records)])
        return tuple([records[at] for _, at in places])

    def __add__(self, other):
        if not isinstance(other, Order):
            return _with_field(self, other, True)
        chart, paths, other_paths = _side_by_side(self, other)
        return _order_on(chart, _one_then_other(paths, other_paths))

    def __radd__(self, other):
        return _with_field(self, other, False)

    def __neg__(self):
        return order_by(self.family, (self.reads, self.limits, turned_node(self.key[2])))

    def __and__(self, other):
        if not isinstance(other, Order):
            return NotImplemented
        chart, paths, other_paths = _side_by_side(self, other)
        plain = [plain_paths(chart, part) for part in (paths, other_paths)]
        found = common_paths(plain[0], plain[1])
        return _order_on(chart, [found[cell] for cell in range(len(paths))])

    def __or__(self, other):
        if not isinstance(other, Order):
            return NotImplemented
        chart, paths, other_paths = _side_by_side(self, other)
        sayers = [Pathing(chart, plain_paths(chart, part)) for part in (paths, other_paths)]
        records = pair_said(chart, sayers[0], sayers[1], OPPOSITE, chart.full)
        if records:
            raise Opposite(records[0], records[1])
        return _order_on(chart, _one_then_other(paths, other_paths))

    def __le__(self, other):
        if not isinstance(other, Order):
            return NotImplemented
        return self.beside(other) is None

    def __lt__(self, other):
        if not isinstance(other, Order):
            return NotImplemented
        return self.beside(other) is None and self.key != other.key

    def __ge__(self, other):
        if not isinstance(other, Order):
            return NotImplemented
        return other.beside(self) is None

    def __gt__(self, other):
        if not isinstance(other, Order):
            return NotImplemented
        return other.beside(self) is None and self.key != other.key

    def unlike(self, other):
        """Two records of which the orders do not say the same, or None."""
        return _pair_said(self, other, UNLIKE)

    def beside(self, other):
        """Two records of which this order says "less" and the other one does not, or None."""
        return _pair_said(self, other, NOT_LESS)

    def __getitem__(self, condition):
        chart = chart_with(self, condition)
        paths = paths_for(chart, self.key)
        met = cells_with(chart, condition)
        return _order_on(chart, [_path_within(path, met >> at & 1) for at, path in enumerate(paths)])

    def __iter__(self):
        raise TypeError("an order is not iterated over")

    def changed(self, condition, other):
        """This order, but the other one for two records that both have a condition."""
        chart = chart_with(self, condition, other)
        paths = [plain_paths(chart, paths_for(chart, part.key)) for part in (self, other)]
        return order_said(chart, Changing(chart, paths[0], paths[1], cells_with(chart, condition)))


def chart_with(order, condition, *others):
    """The chart for an order, a condition and other orders of its family."""
    for other in others:
        if not is_order_of(other, order.family):
            raise OtherFamily()
    if not is_condition(order.family, condition):
        raise BadCondition(condition)
    parts = [read_and_named(order.family, condition), *[other.key for other in others]]
    return chart_for(order.family, order.key, *parts)


def is_order_of(thing, family):
    """Whether a value is an order of a family."""
    return isinstance(thing, Order) and thing.family == family


def order_said(chart, sayer):
    """The order that a sayer is."""
    word, found = verdict(chart, sayer)
    if word == "broken":
        raise NotOrder(found) from Broken(found)
    return order_by(chart.family, normal_key(chart, found))


def order_by(family, key):
    """The order by a normal key."""
    order = Order(family, "alike")
    order.key = key
    order.reads = key[0]
    order.limits = key[1]
    order._paths = paths_in(key[2])
    return order


def _order_on(chart, paths):
    """The order by the paths of the cells of a chart."""
    return order_by(chart.family, normal_key(chart, plain_paths(chart, paths)))


def _side_by_side(one, other):
    """The chart for two orders, and the paths of each one for it."""
    if not is_order_of(other, one.family):
        raise OtherFamily()
    chart = chart_for(one.family, one.key, other.key)
    return chart, paths_for(chart, one.key), paths_for(chart, other.key)


def _pair_said(one, other, wanted):
    """Two records of which two orders say one of the wanted pairs of words, or None."""
    chart, paths, other_paths = _side_by_side(one, other)
    if one.key == other.key:
        return None
    sayers = [Pathing(chart, plain_paths(chart, part)) for part in (paths, other_paths)]
    return pair_said(chart, sayers[0], sayers[1], wanted, chart.full)


def _one_then_other(paths, other_paths):
    return [(*path, *other) for path, other in zip(paths, other_paths)]


def _with_field(order, wish, behind):
    """An order and one by a field, this one behind it or ahead of it."""
    wishes = _wishes(order.family, (wish,))
    chart = chart_for(order.family, order.key, (_reads_of_wishes(order.family, wishes), ()))
    paths = paths_for(chart, order.key)
    by_field = _paths_by(chart, wishes)
    return _order_on(chart, _one_then_other(paths, by_field) if behind else _one_then_other(by_field, paths))


def _wishes(family, names):
    """The fields that are named, each with its way."""
    wishes = []
    for name in names:
        field = name.removeprefix("-") if isinstance(name, str) else name
        if not family.is_field(field):
            raise NoField(name)
        wishes.append((field, "up" if field == name else "down"))
    return wishes


def _reads_of_wishes(family, wishes):
    return reads_of(family, [field for field, _ in wishes])


def _paths_by(chart, wishes):
    """The paths by fields: who does not have a field comes last."""
    paths = []
    for kind, _ in chart.cells:
        fields = chart.family.fields_of(kind)
        paths.append(tuple([(0, way, field) if field in fields else (1, "", "") for field, way in wishes]))
    return paths


def _path_within(path, met):
    """The path within a condition, for a cell that has it or not."""
    return ((0, "", ""), *path) if met else ((1, "", ""),)
