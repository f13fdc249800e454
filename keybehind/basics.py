"""What values are, asked before more is done with them."""

LETTERS = "abcdefghijklmnopqrstuvwxyz"
LONGEST_NAME = 8


def is_whole(thing):
    """Whether a value is an integer; a bool is none."""
    return isinstance(thing, int) and not isinstance(thing, bool)


def is_name(thing):
    """Whether a value is a string of one to eight letters a to z."""
    if not isinstance(thing, str) or not 1 <= len(thing) <= LONGEST_NAME:
        return False
    return all([letter in LETTERS for letter in thing])


def is_row(thing, many):
    """Whether a value is a tuple of so many parts."""
    return isinstance(thing, tuple) and len(thing) == many


def is_choice(thing, known):
    """Whether a value is a tuple of distinct ones of the known names."""
    if not isinstance(thing, tuple) or not all([part in known for part in thing]):
        return False
    return len(set(thing)) == len(thing)


def ascending(things):
    """A tuple of strings, integers or tuples of these: sorted, each once."""
    return tuple(sorted(set(things)))
