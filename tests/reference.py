"""What the document says of comparisons, keys and orders, put into practice record by record, without the package."""

import operator
from itertools import product

from tests.helpers import SHOP, TIMES
from keybehind.families import Family

TURNED = {"less": "greater", "alike": "alike", "greater": "less"}
# Kinds with unlike fields: those of woven cells.
SHELVES = Family(
    (("height", "size"), ("length", "size"), ("rank", "place")),
    ("thing", (), ()),
    ("flat", ("thing",), ("height", "length")),
    ("long", ("thing",), ("length",)),
    ("row", (), ("rank",)),
)
SINGLE = Family((("price", "money"),), ("pen", (), ("price",)), ("book", (), ("price",)), ("gift", ("pen",), ()))
PAIRS = Family((("high", "size"), ("low", "size")), ("box", (), ("high", "low")))
MIXED = Family((("age", "years"), ("size", "cents")), ("shirt", (), ("age", "size")))
TRIPLE = Family((("x", "m"), ("y", "m"), ("z", "m")), ("dot", (), ("x", "y", "z")))
BARE = Family((), ("base", (), ()), ("left", ("base",), ()), ("right", ("base",), ()), ("both", ("left", "right"), ()))
# What is the second measure of one kind is the only one of another kind.
UNEVEN = Family((("depth", "size"), ("rank", "status")), ("hole", (), ("depth", "rank")), ("queen", (), ("rank",)))
FAMILIES = (SHOP, TIMES, SHELVES, SINGLE, PAIRS, MIXED, UNEVEN, BARE)


def records_with(family, values):
    """All records of a family with these values."""
    return [(kind, row) for kind in family.names for row in product(values, repeat=len(family.fields_of(kind)))]


def all_ways(family, limits, many):
    """Records of which every row of so many shows all ways in which its values and the limits can lie."""
    fields = max(
        sum(family.measure_of(field) == measure for field in family.fields_of(kind))
        for kind in family.names
        for measure in ("", *family.measures)
    )
    room = many * fields
    if not limits:
        return records_with(family, range(room))
    values = {limit + step for limit in limits for step in range(-room, room + 1)}
    return records_with(family, sorted(values))


def seen(family, record):
    """A record as its kind's line and its values by the fields."""
    kind, values = record
    return set(family.line(kind)), dict(zip(family.fields_of(kind), values, strict=True))


def reader(comparison):
    """A function of two records, as `seen` gives them, that tells what a comparison or a condition says."""
    if isinstance(comparison, str):
        return lambda a, b: comparison
    word, *parts = comparison
    if word == "is":
        who, kind = parts
        return (lambda a, b: kind in a[0]) if who == "a" else (lambda a, b: kind in b[0])
    if word in ("less", "same"):
        return _test_reader(operator.lt if word == "less" else operator.eq, *parts)
    inner = [reader(part) for part in parts]
    if word == "if":
        condition, yes, no = inner
        return lambda a, b: yes(a, b) if condition(a, b) else no(a, b)
    if word == "not":
        return lambda a, b: not inner[0](a, b)
    gathered = all if word == "and" else any
    return lambda a, b: gathered(part(a, b) for part in inner)


def _test_reader(sign, x, y):
    def side(z):
        if isinstance(z, int):
            return lambda a, b: z
        who, field = z
        return (lambda a, b: a[1].get(field)) if who == "a" else (lambda a, b: b[1].get(field))

    left, right = side(x), side(y)

    def told(a, b):
        low, high = left(a, b), right(a, b)
        return low is not None and high is not None and sign(low, high)

    return told


def worded(family, comparison):
    """A function of two records that tells what a comparison says of them."""
    told, views = reader(comparison), {}

    def word(one, other):
        for record in (one, other):
            if record not in views:
                views[record] = seen(family, record)
        return told(views[one], views[other])

    return word


def table(family, comparison, records):
    """What a comparison says of any two of these records."""
    told, views = reader(comparison), [seen(family, record) for record in records]
    return [[told(a, b) for b in views] for a in views]


def is_order(words):
    """Whether nothing breaks a table of words."""
    many = range(len(words))
    for one in many:
        if words[one][one] != "alike" or any(words[other][one] != TURNED[words[one][other]] for other in many):
            return False
    less = [sum(1 << at for at in many if words[one][at] == "less") for one in many]
    alike = [sum(1 << at for at in many if words[one][at] == "alike") for one in many]
    for one in many:
        for other in many:
            if words[one][other] == "less" and (less[other] | alike[other]) & ~less[one]:
                return False
            if words[one][other] == "alike" and (less[other] & ~less[one] or alike[other] & ~alike[one]):
                return False
    return True


def breaks(family, comparison, records):
    """Whether a tuple of records breaks a comparison."""
    told, views = reader(comparison), [seen(family, record) for record in records]
    return broken(lambda one, other: told(views[one], views[other]), len(records))


def broken(word, many):
    """Whether records 0, 1 and so on, so many, break what is said of any two of them."""
    if many == 1:
        return word(0, 0) != "alike"
    if many == 2:
        return word(1, 0) != TURNED[word(0, 1)]
    first, second = word(0, 1), word(1, 2)
    if "greater" in (first, second):
        return False
    return word(0, 2) != ("alike" if (first, second) == ("alike", "alike") else "less")


def cell(family, reads, limits, record):
    """The cell of a record, told measure by measure as the document puts it."""
    kind, rows = record[0], []
    fields = [field for name, field in reads if name == kind]
    for measure in family.measures:
        lying = {}
        for field in fields:
            if family.measure_of(field) == measure:
                lying.setdefault(family.value(record, field), [[], []])[1].append(field)
        if lying:
            for name, limit in limits:
                if name == measure:
                    lying.setdefault(limit, [[], []])[0].append(limit)
            rows.append((measure, tuple((tuple(lying[at][0]), tuple(lying[at][1])) for at in sorted(lying))))
    return kind, tuple(rows)


def key_word(family, key, one, other):
    """What a key says of two records."""
    reads, limits, node = key
    cells = [cell(family, reads, limits, record) for record in (one, other)]
    while True:
        at, beside = (next(number for number, block in enumerate(node) if due in cells_in(block)) for due in cells)
        if at != beside:
            return "less" if at < beside else "greater"
        if node[at][0] == "alike":
            return "alike"
        _, way, pairs, node = node[at]
        fields = dict(pairs)
        x, y = family.value(one, fields[cells[0]]), family.value(other, fields[cells[1]])
        if x != y:
            return "less" if (x < y) == (way == "up") else "greater"


def cells_in(block):
    return list(block[1]) if block[0] == "alike" else [pair[0] for pair in block[2]]


def is_plain(family, key):
    """Whether a key is plain, word for word."""

    def plain(node, told):
        for block in node:
            if block[0] == "alike":
                continue
            gaps, below = set(), {}
            for due, field in block[2]:
                row = next(groups for measure, groups in due[1] if measure == family.measure_of(field))
                at = next(number for number, group in enumerate(row) if field in group[1])
                if row[at][0] or set(row[at][1]) & set(told[due]) or field != min(row[at][1]):
                    return False
                gaps.add((ended(row[:at][::-1], told[due]), ended(row[at + 1 :], told[due])))
                below[due] = (*told[due], field)
            if len(gaps) > 1 or not plain(block[3], below):
                return False
        return True

    def ended(groups, told):
        for limit, fields in groups:
            if limit:
                return ("limit", limit)
            for level, field in enumerate(told):
                if field in fields:
                    return ("told", level)
        return None

    def cells_of(node):
        return [due for block in node for due in cells_in(block)]

    return plain(key[2], {due: () for due in cells_of(key[2])})


def mattering(family, word, records):
    """The pairs (kind, field) for which two of these records differ in this field alone and are not alike."""
    found = set()
    for kind, values in records:
        for at, field in enumerate(family.fields_of(kind)):
            for value in {row[at] for name, row in records if name == kind}:
                other = (kind, (*values[:at], value, *values[at + 1 :]))
                if (kind, field) not in found and word((kind, values), other) != "alike":
                    found.add((kind, field))
    return tuple(sorted(found))


def lying(family, limits, one, other):
    """In which order the values of two records and the limits lie."""
    told = []
    for measure in family.measures:
        places = {limit: [str(limit)] for name, limit in limits if name == measure}
        for who, record in (("a", one), ("b", other)):
            for field in family.fields_of(record[0]):
                if family.measure_of(field) == measure:
                    places.setdefault(family.value(record, field), []).append(who + field)
        told.append(tuple(tuple(places[at]) for at in sorted(places)))
    return one[0], other[0], tuple(told)


def needed(family, word, limits, records):
    """Those of the limits without which what is said does not hang on the order of values and limits alone."""
    found = []
    for limit in limits:
        others = [part for part in limits if part != limit]
        said = {}
        for one, other in product(records, records):
            said.setdefault(lying(family, others, one, other), set()).add(word(one, other))
        if any(len(words) > 1 for words in said.values()):
            found.append(limit)
    return tuple(found)
