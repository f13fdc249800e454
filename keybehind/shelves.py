"""Shelves: records that stay sorted by an order."""

from keybehind.conditions import is_condition, meets
from keybehind.errors import BadCondition, NothingThere, NotRecord, OtherFamily
from keybehind.orders import is_order_of


class Shelf:
    """Records in the row of an order; a record that comes stands behind all that are not greater."""

    def __init__(self, order, *records):
        self._order = order
        self._rows = order.row(*records)
        self._places = [order.place(record) for record in self._rows]

    @property
    def rows(self):
        """The records."""
        return self._rows

    @property
    def order(self):
        """The order by which they are sorted."""
        return self._order

    @order.setter
    def order(self, value):
        self.set_order(value)

    def set_order(self, order):
        """Sorts the records anew, by another order."""
        if not is_order_of(order, self._order.family):
            raise OtherFamily()
        self._order = order
        self._rows = order.row(*self._rows)
        self._places = [order.place(record) for record in self._rows]

    def __iadd__(self, other):
        self.put(other)
        return self

    def put(self, *records):
        """Puts records, one after the other."""
        for record in records:
            if not self._order.family.is_record(record):
                raise NotRecord(record)
        rows = list(self._rows)
        for record in records:
            place = self._order.place(record)
            at = _end_in(self._places, place, True)
            rows.insert(at, record)
            self._places.insert(at, place)
        self._rows = tuple(rows)

    def take(self, record):
        """Takes the first record away that is equal to a value."""
        if record not in self:
            raise NothingThere()
        at = self._rows.index(record)
        self._rows = (*self._rows[:at], *self._rows[at + 1:])
        del self._places[at]

    def __len__(self):
        return len(self._rows)

    def __contains__(self, x):
        return self._order.family.is_record(x) and x in self._rows

    def __getitem__(self, at):
        family = self._order.family
        if not is_condition(family, at):
            raise BadCondition(at)
        return tuple([record for record in self._rows if meets(family, at, record, record)])

    def __iter__(self):
        raise TypeError("a shelf is not iterated over")

    def span(self, record):
        """How many records are less than a record, and how many are less or alike."""
        if not self._order.family.is_record(record):
            raise NotRecord(record)
        place = self._order.place(record)
        return (_end_in(self._places, place, False), _end_in(self._places, place, True))

    def merged(self, other):
        """The shelf with this order, these records and those of another shelf behind them."""
        if not isinstance(other, Shelf) or not is_order_of(other._order, self._order.family):
            raise OtherFamily()
        return Shelf(self._order, *self._rows, *other._rows)


def _end_in(places, place, alike):
    """How many of some sorted places are less than a place; or, with those that are alike, not greater."""
    low = 0
    high = len(places)
    while low < high:
        middle = (low + high) // 2
        if places[middle] < place or (alike and places[middle] == place):
            low = middle + 1
        else:
            high = middle
    return low
