"""Families of kinds, and their records."""

from keybehind.basics import ascending, is_choice, is_name, is_row, is_whole
from keybehind.errors import BadFamily, InvalidText, NoField, NoKind, NoLine, NotRecord


class Family:
    """Fields with their measures, and kinds that have fields, own ones and those of their bases."""

    def __init__(self, fields, *kinds):
        if not _are_fields(fields):
            raise BadFamily("fields")
        self.fields = ascending(fields)
        self.measures = ascending([pair[1] for pair in self.fields])
        self._measure_by_field = {pair[0]: pair[1] for pair in self.fields}
        self._line_by_kind = _lines(list(self._measure_by_field), kinds)
        self.kinds = tuple([(name, bases, ascending(own)) for name, bases, own in kinds])
        self.names = tuple([row[0] for row in self.kinds])
        own_by_kind = {name: own for name, _, own in self.kinds}
        self._fields_by_kind = {name: _joined(own_by_kind, self._line_by_kind[name]) for name in self.names}
        self.text = _family_text(self.fields, self.kinds)

    def __eq__(self, other):
        return isinstance(other, Family) and self.fields == other.fields and self.kinds == other.kinds

    @classmethod
    def read(cls, text):
        """The family that has this text."""
        if not isinstance(text, str):
            raise InvalidText()
        fields, kinds = _family_parts(text)
        try:
            family = cls(fields, *kinds)
        except (BadFamily, NoLine):
            raise InvalidText() from None
        if family.text != text:
            raise InvalidText()
        return family

    def is_kind(self, thing):
        """Whether a value is the name of a kind of this family."""
        return thing in self.names

    def is_field(self, thing):
        """Whether a value is a field of this family."""
        return isinstance(thing, str) and thing in self._measure_by_field

    def line(self, kind):
        """The kind and all kinds that it gets fields from, in their order."""
        if not self.is_kind(kind):
            raise NoKind(kind)
        return self._line_by_kind[kind]

    def fields_of(self, kind):
        """The fields of a kind, ascending."""
        if not self.is_kind(kind):
            raise NoKind(kind)
        return self._fields_by_kind[kind]

    def measure_of(self, field):
        """The measure of a field."""
        if not self.is_field(field):
            raise NoField(field)
        return self._measure_by_field[field]

    def is_heir(self, kind, other):
        """Whether the second kind stands in the line of the first one."""
        line = self.line(kind)
        if not self.is_kind(other):
            raise NoKind(other)
        return other in line

    def record(self, kind, **values):
        """The record of a kind with these values, by the names of its fields."""
        fields = self.fields_of(kind)
        strange = ascending([name for name in values if name not in fields])
        if strange:
            raise NoField(strange[0])
        for field in fields:
            if field not in values:
                raise NoField(field)
        for field in fields:
            if not is_whole(values[field]):
                raise NotRecord(values[field])
        return (kind, tuple([values[field] for field in fields]))

    def is_record(self, thing):
        """Whether a value is a record of this family."""
        if not is_row(thing, 2) or not self.is_kind(thing[0]):
            return False
        if not is_row(thing[1], len(self.fields_of(thing[0]))):
            return False
        return all([is_whole(value) for value in thing[1]])

    def value(self, record, field):
        """The value of a field in a record, or None if the record does not have the field."""
        if not self.is_record(record):
            raise NotRecord(record)
        if not self.is_field(field):
            raise NoField(field)
        return value_in(self, record, field)


def value_in(family, record, field):
    """What family.value tells, without asking whether the record and the field are some."""
    kind, values = record
    fields = family.fields_of(kind)
    return values[fields.index(field)] if field in fields else None


def _are_fields(thing):
    """Whether a value is a tuple of distinct fields with their measures."""
    if not isinstance(thing, tuple) or not all([_is_field_row(part) for part in thing]):
        return False
    return len(set([pair[0] for pair in thing])) == len(thing)


def _is_field_row(thing):
    return is_row(thing, 2) and is_name(thing[0]) and is_name(thing[1])


def _lines(fields, kinds):
    """The lines of all kinds by their names; the first kind that is wrong is told."""
    lines = {}
    for kind in kinds:
        if not _is_kind_row(kind, fields, list(lines)):
            raise BadFamily(kind)
        name, bases, _ = kind
        line = _line(name, bases, lines)
        if line is None:
            raise NoLine(name)
        lines[name] = line
    return lines


def _is_kind_row(thing, fields, ahead):
    """Whether a value is a kind that can stand behind the kinds with these names."""
    if not is_row(thing, 3) or not is_name(thing[0]) or thing[0] in ahead:
        return False
    return is_choice(thing[1], ahead) and is_choice(thing[2], fields)


def _line(name, bases, lines):
    """The line of a kind, or None if it has none."""
    line = [name]
    rows = _filled([list(lines[base]) for base in bases] + [list(bases)])
    while rows:
        kind = _free_kind(rows)
        if kind is None:
            return None
        line.append(kind)
        rows = _filled([[part for part in row if part != kind] for row in rows])
    return tuple(line)


def _filled(rows):
    return [row for row in rows if row]


def _free_kind(rows):
    """The first kind at the head of a row that stands in no row behind the first place, or None."""
    for row in rows:
        if not any([row[0] in other[1:] for other in rows]):
            return row[0]
    return None


def _joined(own_by_kind, line):
    """All own fields of the kinds of a line."""
    return ascending([field for kind in line for field in own_by_kind[kind]])


def _family_text(fields, kinds):
    lines = [f"field {field} {measure}" for field, measure in fields]
    for name, bases, own in kinds:
        lines.append(" ".join(["kind", name, ":", *bases, ";", *own]))
    return "\n".join(lines)


def _family_parts(text):
    """The fields and kinds that the lines of a text tell of, right ones or not."""
    fields = []
    kinds = []
    for line in text.split("\n") if text else []:
        words = line.split(" ")
        if words[0] == "field" and len(words) == 3:
            fields.append((words[1], words[2]))
        elif words[0] == "kind" and words[2:3] == [":"] and ";" in words:
            end = words.index(";")
            kinds.append((words[1], tuple(words[3:end]), tuple(words[end + 1:])))
        else:
            raise InvalidText()
    return tuple(fields), tuple(kinds)
