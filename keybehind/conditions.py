"""Tests, conditions and comparisons: which values are some, what they say of records, and their texts."""

from keybehind.basics import is_row, is_whole
from keybehind.errors import BadComparison, BadCondition, InvalidText, NotRecord
from keybehind.families import value_in
from keybehind.parsing import JOINTS, SAID, comparison_in, condition_in

# Limits are so far apart that the values of three records have room between two of them.
STEP = 1000


def is_condition(family, thing, *, both=False):
    """Whether a value is a condition on one record, or with both on two records."""
    return _is_condition(family, thing, ("a", "b") if both else ("a",))


def is_comparison(family, thing):
    """Whether a value is a comparison."""
    return is_program(family, thing, SAID)


def holds(family, condition, record):
    """Whether a record has a condition."""
    if not is_condition(family, condition):
        raise BadCondition(condition)
    if not family.is_record(record):
        raise NotRecord(record)
    return meets(family, condition, record, record)


def says(family, comparison, one, other):
    """What a comparison says of two records."""
    if not is_comparison(family, comparison):
        raise BadComparison(comparison)
    for record in (one, other):
        if not family.is_record(record):
            raise NotRecord(record)
    return word_for(family, comparison, one, other)


def written(thing):
    """The text of a condition, a comparison or a program of operators."""
    if isinstance(thing, str):
        return thing
    word = thing[0]
    if word == "if":
        return f"if {written(thing[1])} then {written(thing[2])} else {written(thing[3])}"
    if word == "not":
        return f"not {written(thing[1])}"
    if word in JOINTS:
        return _joined_text(word, [written(part) for part in thing[1:]])
    if word == "is":
        return f"{thing[1]} is {thing[2]}"
    sign = "<" if word == "less" else "=="
    return f"{_side_text(thing[1])} {sign} {_side_text(thing[2])}"


def read_condition(family, text, *, both=False):
    """The condition that has this text."""
    thing = condition_in(text)
    if not is_condition(family, thing, both=both) or written(thing) != text:
        raise InvalidText()
    return thing


def read_comparison(family, text):
    """The comparison that has this text."""
    thing = comparison_in(text)
    if not is_comparison(family, thing) or written(thing) != text:
        raise InvalidText()
    return thing


def is_program(family, thing, words):
    """Whether a value is one of these words, or an "if" with a condition on two records and such values."""
    if isinstance(thing, str):
        return thing in words
    if not is_row(thing, 4) or thing[0] != "if" or not is_condition(family, thing[1], both=True):
        return False
    return is_program(family, thing[2], words) and is_program(family, thing[3], words)


def is_limit(thing):
    """Whether a value is a limit."""
    return is_whole(thing) and thing % STEP == 0


def meets(family, condition, one, other):
    """Whether two records have a condition on two records; nothing is checked."""
    word = condition[0]
    if word == "not":
        return not meets(family, condition[1], one, other)
    if word == "and":
        return all([meets(family, part, one, other) for part in condition[1:]])
    if word == "or":
        return any([meets(family, part, one, other) for part in condition[1:]])
    if word == "is":
        record = one if condition[1] == "a" else other
        return family.is_heir(record[0], condition[2])
    low = _side_value(family, condition[1], one, other)
    high = _side_value(family, condition[2], one, other)
    if low is None or high is None:
        return False
    return low < high if word == "less" else low == high


def word_for(family, program, one, other):
    """The word that a comparison or a program of operators comes to for two records; nothing is checked."""
    while not isinstance(program, str):
        program = program[2] if meets(family, program[1], one, other) else program[3]
    return program


def _is_condition(family, thing, whos):
    """Whether a value is a condition whose tests speak of these records alone."""
    if not isinstance(thing, tuple) or not thing:
        return False
    word = thing[0]
    if word == "not":
        return len(thing) == 2 and _is_condition(family, thing[1], whos)
    if word in JOINTS:
        return all([_is_condition(family, part, whos) for part in thing[1:]])
    return len(thing) == 3 and _is_test(family, word, thing[1], thing[2], whos)


def _is_test(family, word, one, other, whos):
    if word == "is":
        return one in whos and family.is_kind(other)
    if word not in ("less", "same"):
        return False
    if is_limit(one):
        return _is_field_side(family, other, whos)
    if not _is_field_side(family, one, whos):
        return False
    if is_limit(other):
        return True
    return _is_field_side(family, other, whos) and family.measure_of(one[1]) == family.measure_of(other[1])


def _is_field_side(family, thing, whos):
    """Whether a value is the side of a test that reads a field."""
    return is_row(thing, 2) and thing[0] in whos and family.is_field(thing[1])


def _side_value(family, side, one, other):
    """What a side of a test stands for, or None if the record does not have the field."""
    if isinstance(side, int):
        return side
    who, field = side
    return value_in(family, one if who == "a" else other, field)


def _joined_text(word, parts):
    """The text of conditions joined by a word."""
    if not parts:
        return "always" if word == "and" else "never"
    if len(parts) == 1:
        return f"({word} {parts[0]})"
    joint = f" {word} "
    return f"({joint.join(parts)})"


def _side_text(side):
    return str(side) if isinstance(side, int) else f"{side[0]}.{side[1]}"
