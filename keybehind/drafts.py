"""Drafts: orders that are changed step by step, and whose changes can be taken back."""

from keybehind.errors import NothingThere, OtherFamily
from keybehind.orders import is_order_of


class Draft:
    """An order that can be replaced by others of its family."""

    def __init__(self, order):
        # All orders that it has had and that can come back, the present one last.
        self._orders = (order,)

    @property
    def order(self):
        """The present order."""
        return self._orders[-1]

    @order.setter
    def order(self, value):
        self.set_order(value)

    def set_order(self, order):
        """Replaces the order."""
        if not is_order_of(order, self._orders[-1].family):
            raise OtherFamily()
        self._orders = (*self._orders, order)

    def __iadd__(self, other):
        self.set_order(self._orders[-1] + other)
        return self

    def __iand__(self, other):
        self.set_order(self._orders[-1] & other)
        return self

    def __ior__(self, other):
        self.set_order(self._orders[-1] | other)
        return self

    def __getitem__(self, at):
        return self._orders[-1][at]

    def __setitem__(self, at, worth):
        self.change(at, worth)

    def __iter__(self):
        raise TypeError("a draft is not iterated over")

    def __len__(self):
        return len(self._orders[1:])

    def change(self, condition, other):
        """Changes the order to another one on a condition."""
        self.set_order(self._orders[-1].changed(condition, other))

    def undo(self):
        """Takes the last change back."""
        if len(self._orders) == 1:
            raise NothingThere()
        self._orders = self._orders[:-1]

    def trying(self):
        """An object for `with`: at the end of the block the draft is as it was at its beginning."""
        return Trying(self)

    def tried(self, action):
        """What a function returns for the draft, which then is as it was ahead of that."""
        with self.trying():
            return action(self)


class Trying:
    """Keeps a draft as it is, for blocks that may lie in each other."""

    def __init__(self, draft):
        self.draft = draft
        self.kept = None

    def __enter__(self):
        self.kept = Kept(self.draft._orders, self.kept)
        return self.draft

    def __exit__(self, kind, value, trace):
        draft = self.draft
        draft._orders = self.kept.orders
        self.kept = self.kept.outer


class Kept:
    """The orders of a draft at the beginning of a block, and what is kept for the block around it."""

    def __init__(self, orders, outer):
        self.orders = orders
        self.outer = outer
