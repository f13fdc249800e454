"""The errors of this package: one class for each kind of failure.

The parameters of an error are also its attributes.
"""


class OrderError(Exception):
    """The base class of all other errors."""


class BadFamily(OrderError):
    """The fields or a kind of a family are not as they must be."""

    def __init__(self, part):
        self.part = part


class NoLine(OrderError):
    """The bases of a kind stand in orders that no line can keep."""

    def __init__(self, kind):
        self.kind = kind


class NoKind(OrderError):
    """A value is no kind of the family."""

    def __init__(self, kind):
        self.kind = kind


class NoField(OrderError):
    """A value is no field of the family, or a field lacks or is not one of the kind."""

    def __init__(self, field):
        self.field = field


class NotRecord(OrderError):
    """A value is no record of the family, or no value of a record."""

    def __init__(self, thing):
        self.thing = thing


class BadCondition(OrderError):
    """A value is no condition."""

    def __init__(self, thing):
        self.thing = thing


class BadComparison(OrderError):
    """A value is no comparison."""

    def __init__(self, thing):
        self.thing = thing


class BadKey(OrderError):
    """A value is no key."""

    def __init__(self, thing):
        self.thing = thing


class BadOperators(OrderError):
    """A value is no entry of operators, one entry too many, or no sign."""

    def __init__(self, part):
        self.part = part


class OtherFamily(OrderError):
    """Orders of two families were put together."""


class TooMany(OrderError):
    """There would be more cells than are looked at."""

    def __init__(self, cells):
        self.cells = cells


class Broken(OrderError):
    """Records by which a comparison contradicts itself."""

    def __init__(self, records):
        self.records = records


class NotOrder(OrderError):
    """A comparison is no order, as these records show."""

    def __init__(self, records):
        self.records = records


class Opposite(OrderError):
    """One order says less of two records, another one greater."""

    def __init__(self, one, other):
        self.one = one
        self.other = other


class NoRow(OrderError):
    """No row has more runs than this."""

    def __init__(self, most):
        self.most = most


class Refused(OrderError):
    """Two records have no answer for a sign."""

    def __init__(self, sign, one, other):
        self.sign = sign
        self.one = one
        self.other = other


class NothingThere(OrderError):
    """There is nothing to take away or to take back."""


class InvalidText(OrderError):
    """A value is not the text of anything."""
