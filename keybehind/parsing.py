"""Texts of conditions and comparisons, taken apart word by word.

Only words are looked at: what is returned need not be valid for a family, nor have just this text. A function whose
name ends with _at reads what begins at one word, and returns it and the number of the word behind it.
"""

from keybehind.errors import InvalidText

JOINTS = ("and", "or")
SAID = ("less", "alike", "greater")
SIGNS = {"<": "less", "==": "same"}
DIGITS = "0123456789"
# Python itself refuses to turn more than 4,300 digits into an integer.
MOST_DIGITS = 4000
# Recursion must stay far below Python's limit, whatever the text is.
DEEPEST = 100


def condition_in(text):
    """The condition with which a text begins."""
    return _condition_at(_words(text), 0, 0)[0]


def comparison_in(text):
    """The comparison with which a text begins."""
    return _comparison_at(_words(text), 0, 0)[0]


def _words(text):
    """The words of a text, each bracket as a word of its own."""
    if not isinstance(text, str):
        raise InvalidText()
    return text.replace("(", "( ").replace(")", " )").split(" ")


def _word(words, at):
    return words[at] if at < len(words) else ""


def _behind(words, at, due):
    """The number of the next word, if the due word stands here."""
    if _word(words, at) != due:
        raise InvalidText()
    return at + 1


def _comparison_at(words, at, deep):
    word = _word(words, at)
    if word in SAID:
        return word, at + 1
    if deep > DEEPEST:
        raise InvalidText()
    condition, behind = _condition_at(words, _behind(words, at, "if"), deep + 1)
    yes, behind = _comparison_at(words, _behind(words, behind, "then"), deep + 1)
    no, behind = _comparison_at(words, _behind(words, behind, "else"), deep + 1)
    return ("if", condition, yes, no), behind


def _condition_at(words, at, deep):
    if deep > DEEPEST:
        raise InvalidText()
    word = _word(words, at)
    if word == "not":
        part, behind = _condition_at(words, at + 1, deep + 1)
        return ("not", part), behind
    if word == "(":
        return _bracket_at(words, at + 1, deep + 1)
    if word == "always":
        return ("and",), at + 1
    if word == "never":
        return ("or",), at + 1
    return _test_at(words, at)


def _bracket_at(words, at, deep):
    """What stands behind an opening bracket, the closing one included."""
    joint = _word(words, at)
    if joint in JOINTS:
        part, behind = _condition_at(words, at + 1, deep)
        return (joint, part), _behind(words, behind, ")")
    part, behind = _condition_at(words, at, deep)
    joint = _word(words, behind)
    if joint not in JOINTS:
        raise InvalidText()
    parts = [part]
    while _word(words, behind) == joint:
        part, behind = _condition_at(words, behind + 1, deep)
        parts.append(part)
    return (joint, *parts), _behind(words, behind, ")")


def _test_at(words, at):
    # Only places count here: a kind or a field may have the name of any word.
    if len(words) < at + 3:
        raise InvalidText()
    one, sign, other = words[at:at + 3]
    if sign == "is":
        return ("is", one, other), at + 3
    if sign not in SIGNS:
        raise InvalidText()
    return (SIGNS[sign], _side(one), _side(other)), at + 3


def _side(word):
    """One side of a test: who and the field, or a limit."""
    who, dot, field = word.partition(".")
    if dot:
        return (who, field)
    digits = word.removeprefix("-")
    if not 1 <= len(digits) <= MOST_DIGITS or not all([digit in DIGITS for digit in digits]):
        raise InvalidText()
    return int(word)
