"""The comparison operators of a family of classes, asked as Python asks them."""

from keybehind.basics import ascending, is_row
from keybehind.comparing import pair_said
from keybehind.conditions import is_program, word_for
from keybehind.errors import BadOperators, NotRecord, OtherFamily, Refused
from keybehind.keys import chart_for, sayer_for
from keybehind.orders import is_order_of, order_said
from keybehind.reading import read_and_named
from keybehind.sayers import Comparing
from keybehind.trees import swapped

REFLECTED = {"<": ">", "<=": ">=", ">": "<", ">=": "<="}
ANSWERS = ("yes", "no", "other")
# What a sign answers beside what an order says, if it tells otherwise.
OTHERWISE = {
    "<": (("yes", "alike"), ("yes", "greater"), ("no", "less")),
    "<=": (("yes", "greater"), ("no", "less"), ("no", "alike")),
    ">": (("yes", "less"), ("yes", "alike"), ("no", "greater")),
    ">=": (("yes", "less"), ("no", "alike"), ("no", "greater")),
}


class Operators:
    """The entries of the kinds of a family: by which programs they answer to which signs."""

    def __init__(self, family, *entries):
        found = {}
        for entry in entries:
            if not _is_entry(family, entry) or entry[:2] in found:
                raise BadOperators(entry)
            found[entry[:2]] = entry
        self.family = family
        self.entries = tuple([found[place] for place in ascending(list(found))])

    def ask(self, sign, one, other):
        """What a sign answers for two records: "yes", "no" or "refused"."""
        return _answer(self, _checked(self, sign, one, other), one, other)[0]

    def asked(self, sign, one, other):
        """The entries that are asked for two records, in order."""
        return _answer(self, _checked(self, sign, one, other), one, other)[1]

    def refused(self, sign):
        """Two records that are refused by a sign, or None."""
        chart = _chart_of(self, sign)
        sayer = Comparing(chart, _tree_of(self, sign))
        return pair_said(chart, sayer, sayer, (("refused", "refused"),), chart.full)

    def by_less(self):
        """The order that the comparison by "<" is."""
        chart = _chart_of(self, "<")
        tree = _tree_of(self, "<")
        sayer = Comparing(chart, tree)
        records = pair_said(chart, sayer, sayer, (("refused", "refused"),), chart.full)
        if records:
            raise Refused("<", records[0], records[1])
        back = ("then", swapped(tree), (("yes", "greater"), ("no", "alike")))
        return order_said(chart, Comparing(chart, ("then", tree, (("yes", "less"), ("no", back)))))

    def otherwise(self, sign, order):
        """Two records of which a sign tells otherwise than an order, or None."""
        if not _is_sign(sign):
            raise BadOperators(sign)
        if not is_order_of(order, self.family):
            raise OtherFamily()
        chart = _chart_of(self, sign, order.key)
        sayer = Comparing(chart, _tree_of(self, sign))
        return pair_said(chart, sayer, sayer_for(chart, order.key), OTHERWISE[sign], chart.full)


def _is_sign(thing):
    return isinstance(thing, str) and thing in REFLECTED


def _is_entry(family, thing):
    """Whether a value is an entry of operators of a family."""
    if not is_row(thing, 3) or not family.is_kind(thing[0]) or not _is_sign(thing[1]):
        return False
    return is_program(family, thing[2], ANSWERS)


def _checked(operators, sign, one, other):
    """Who is asked for two records by a sign, which are looked at first."""
    if not _is_sign(sign):
        raise BadOperators(sign)
    for record in (one, other):
        if not operators.family.is_record(record):
            raise NotRecord(record)
    return _plan(operators, sign, one[0], other[0])


def _plan(operators, sign, kind, other):
    """Which entries can be asked for records of two kinds, by their numbers; and whether it is the second record's."""
    plan = [(_entry_of(operators, kind, sign), False), (_entry_of(operators, other, REFLECTED[sign]), True)]
    if kind != other and operators.family.is_heir(other, kind):
        plan = plan[::-1]
    return tuple([(number, turned) for number, turned in plan if number is not None])


def _entry_of(operators, kind, sign):
    """The number of the entry that a kind has for a sign, or None."""
    for part in operators.family.line(kind):
        for number, entry in enumerate(operators.entries):
            if entry[:2] == (part, sign):
                return number
    return None


def _answer(operators, plan, one, other):
    """What is answered for two records, and the entries that are asked for that."""
    asked = []
    for number, turned in plan:
        entry = operators.entries[number]
        asked.append(entry)
        first, last = (other, one) if turned else (one, other)
        word = word_for(operators.family, entry[2], first, last)
        if word != "other":
            return word, tuple(asked)
    return "refused", tuple(asked)


def _chart_of(operators, sign, *keys):
    """The chart for a sign, and for keys beside it."""
    if not _is_sign(sign):
        raise BadOperators(sign)
    programs = [entry[2] for entry in operators.entries if entry[1] in (sign, REFLECTED[sign])]
    parts = [read_and_named(operators.family, program) for program in programs]
    return chart_for(operators.family, *parts, *keys)


def _tree_of(operators, sign):
    """The tree of what a sign answers."""
    kinds_by_plan = {}
    for kind in operators.family.names:
        for other in operators.family.names:
            plan = tuple([(_like(operators, number), turned) for number, turned in _plan(operators, sign, kind, other)])
            kinds_by_plan.setdefault(plan, []).append((kind, other))
    tree = "refused"
    for plan, kinds in kinds_by_plan.items():
        if len(kinds_by_plan) == 1:
            tree = _tree_of_plan(operators, plan)
        elif plan:
            tree = ("if", _are_of_kinds(kinds), _tree_of_plan(operators, plan), tree)
    return tree


def _like(operators, number):
    """The number of the first entry with the same program as an entry: so kinds that answer alike are told alike."""
    programs = [entry[2] for entry in operators.entries]
    return programs.index(programs[number])


def _are_of_kinds(pairs):
    """The condition that two records are of just the two kinds of one of some pairs."""
    others = {}
    for kind, other in pairs:
        others.setdefault(kind, []).append(other)
    kinds = {}
    for kind in others:
        kinds.setdefault(tuple(others[kind]), []).append(kind)
    return ("or", *[("and", ("kind", "a", tuple(kinds[row])), ("kind", "b", row)) for row in kinds])


def _tree_of_plan(operators, plan):
    """The tree of the entries that are asked one after the other."""
    tree = "refused"
    for number, turned in plan[::-1]:
        program = operators.entries[number][2]
        tree = ("then", swapped(program) if turned else program, (("yes", "yes"), ("no", "no"), ("other", tree)))
    return tree
