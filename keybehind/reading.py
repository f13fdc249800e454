"""What conditions, comparisons, fields and keys read and name."""

from keybehind.basics import ascending

NESTS = ("if", "not", "and", "or")


def read_and_named(family, thing):
    """The reads and limits of a condition or a comparison."""
    fields = []
    limits = []
    for test in tests_in(thing):
        read = [side[1] for side in test[1:] if isinstance(side, tuple)]
        fields.extend(read)
        limits.extend([(family.measure_of(read[0]), side) for side in test[1:] if isinstance(side, int)])
    return (reads_of(family, fields), ascending(limits))


def reads_of(family, fields):
    """The reads of these fields, in all kinds that have them."""
    return ascending([(kind, field) for kind in family.names for field in family.fields_of(kind) if field in fields])


def together(*parts):
    """The reads and limits of several pairs of such, put together; keys may stand for such pairs."""
    reads = [pair for part in parts for pair in part[0]]
    limits = [pair for part in parts for pair in part[1]]
    return (ascending(reads), ascending(limits))


def tests_in(thing):
    """All tests in a condition or a tree."""
    tests = []
    todo = [thing]
    while todo:
        part = todo.pop()
        if isinstance(part, str):
            continue
        if part[0] == "then":
            todo.extend([part[1], *[rest for _, rest in part[2]]])
        elif part[0] in NESTS:
            todo.extend(part[1:])
        else:
            tests.append(part)
    return tests
