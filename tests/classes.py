"""Operators put into practice: classes of Python for the kinds of a family, with methods for the entries."""

import operator

from tests.reference import reader, seen

SIGNS = ("<", "<=", ">", ">=")
REFLECTED = {"<": ">", "<=": ">=", ">": "<", ">=": "<="}
METHODS = {"<": "__lt__", "<=": "__le__", ">": "__gt__", ">=": "__ge__"}
ASKED = {"<": operator.lt, "<=": operator.le, ">": operator.gt, ">=": operator.ge}
ANSWERS = {"yes": True, "no": False, "other": NotImplemented}


class Classes:
    """The classes of a family with operators; `asked` are the entries that were asked last."""

    def __init__(self, family, entries):
        self.family = family
        self.asked = []
        self.made = {}
        for name, bases, _ in family.kinds:
            methods = {METHODS[entry[1]]: self.method(entry) for entry in entries if entry[0] == name}
            self.made[name] = type(name, tuple(self.made[base] for base in bases), methods)

    def method(self, entry):
        told = reader(entry[2])

        def answer(one, other):
            self.asked.append(entry)
            return ANSWERS[told(one.view, other.view)]

        return answer

    def thing(self, record):
        """A record as an object of the class of its kind."""
        made = self.made[record[0]]()
        made.view = seen(self.family, record)
        return made

    def ask(self, sign, one, other):
        """What Python answers for two objects, and which entries were asked for that."""
        del self.asked[:]
        try:
            found = "yes" if ASKED[sign](one, other) else "no"
        except TypeError:
            found = "refused"
        return found, tuple(self.asked)


def due(sign, word):
    """What a sign is to answer where an order says a word."""
    words = {"<": ("less",), "<=": ("less", "alike"), ">": ("greater",), ">=": ("greater", "alike")}[sign]
    return "yes" if word in words else "no"


def by_less(forth, back):
    """The comparison by "<", of what is answered for r < s and s < r."""
    if forth == "yes":
        return "less"
    return "greater" if back == "yes" else "alike"
