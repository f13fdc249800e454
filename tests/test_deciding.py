"""What cells decide, beside what is said of the records that have them; and plain paths, made in two ways."""

import random
import unittest
from itertools import product

from keybehind.breaking import verdict
from keybehind.building import found_paths, leads_of, said_of
from keybehind.charts import Chart, bits_in, lowest_in, set_of
from keybehind.deciding import cells_with, decided, noted, possible
from keybehind.plainpaths import node_of, plain_paths
from keybehind.sayers import Comparing, Pathing, paths_for, tree_of_paths
from keybehind.trees import settled, word_in
from tests import reference, samples
from tests.comparisons import BROKEN, ORDERS, by, first, under
from tests.drawn import any_comparison
from tests.reference import FAMILIES, cell
from tests.test_judging import limits_in
from tests.test_meetings import CHARTS, whole_chart


def chart_of(family, comparison):
    limits = sorted(limits_in(comparison))
    return whole_chart(family, tuple((measure, limit) for measure in family.measures for limit in limits))


def records_by_cell(chart, values):
    found = {}
    for record in reference.records_with(chart.family, values):
        at = chart.numbers[cell(chart.family, chart.reads, chart.limits, record)]
        found.setdefault(at, []).append(record)
    return found


class Deciding(unittest.TestCase):
    def test_sets_of_cells(self):
        for cells in ([], [0], [3], [0, 1, 5], [99], list(range(100))):
            found = set_of([at in cells for at in range(100)])
            self.assertEqual(bits_in(found), cells)
            if cells:
                self.assertEqual(lowest_in(found), cells[0])

    def test_zones(self):
        for family, limits in CHARTS:
            chart = whole_chart(family, limits)
            for slots, zones in zip(chart.slots, chart.zones, strict=True):
                for at, (measure, limit, _) in enumerate(slots):
                    below = [slot for slot in slots[:at] if slot[0] == measure and slot[1]]
                    self.assertEqual(zones[at], 2 * len(below) + len(limit))
            for at, (measure, _) in enumerate(limits):
                ahead = [name for name, _ in limits[:at] if name == measure]
                self.assertEqual(chart.marks[limits[at]], 2 * len(ahead) + 1)

    def test_what_is_decided_is_said(self):
        choice = random.Random(61)
        found = {True: 0, False: 0}
        for family, limits in CHARTS:
            chart = whole_chart(family, limits)
            values = sorted({limit + step for _, limit in limits or [("", 0)] for step in (-2, -1, 0, 1, 2)})
            records = records_by_cell(chart, values)
            named = [limit for _, limit in limits]
            for _ in range(12):
                comparison = any_comparison(choice, family, named)
                word = reference.worded(family, comparison)
                tree = noted(chart, comparison)
                rows = decided(possible(chart, tree))
                for one, other in choice.choices(list(product(records, records)), k=60):
                    words = {word(r, s) for r in records[one][:12] for s in records[other][:12]}
                    certain = [said for said in rows if rows[said][one] >> other & 1]
                    left = settled(tree, one, other)
                    if certain:
                        self.assertEqual(set(certain), words)
                    else:
                        self.assertTrue(words <= set(leaves(left)))
                    found[bool(certain)] = found[bool(certain)] + 1
        self.assertGreater(min(found.values()), 1000)

    def test_cells_with_a_condition(self):
        choice = random.Random(62)
        for family, limits in CHARTS:
            chart = whole_chart(family, limits)
            tests = samples.tests_of(family, "a", [limit for _, limit in limits])
            for _ in range(20):
                condition = samples.condition_from(choice, tests, 3)
                met = cells_with(chart, condition)
                told = reference.reader(condition)
                values = sorted({limit + step for _, limit in limits or [("", 0)] for step in (-2, -1, 0, 1, 2)})
                for at, records in records_by_cell(chart, values).items():
                    seen = reference.seen(family, records[0])
                    self.assertEqual(met >> at & 1 == 1, told(seen, seen))

    def test_trees_that_go_on(self):
        # "then": behind each word of one tree another one goes on.
        family = reference.SHELVES
        chart = whole_chart(family, ())
        choice = random.Random(63)
        tests = samples.tests_of(family, "ab", ())
        for _ in range(40):
            ahead = samples.tree_from(choice, tests, 2)
            rests = {said: samples.tree_from(choice, tests, 2) for said in ("less", "alike", "greater")}
            tree = noted(chart, ("then", ahead, tuple(rests.items())))
            whole = noted(chart, grafted(ahead, rests))
            rows, due = decided(possible(chart, tree)), decided(possible(chart, whole))
            for one, other in choice.choices(list(product(range(len(chart.cells)), repeat=2)), k=30):
                for said in rows:
                    if rows[said][one] >> other & 1:
                        self.assertTrue(due[said][one] >> other & 1)
                left, right = settled(tree, one, other), settled(whole, one, other)
                spans = [
                    {field: (height, height) for field, height in zip(fields, choice.sample(range(9), len(fields)))}
                    for fields in (sorted(chart.places[one]), sorted(chart.places[other]))
                ]
                self.assertEqual(word_in(left, *spans), word_in(right, *spans))


class PlainPaths(unittest.TestCase):
    def test_two_ways_lead_to_them(self):
        for family, comparison in ORDERS:
            chart = chart_of(family, comparison)
            if len(chart.cells) > 60:
                continue
            sayer = Comparing(chart, comparison)
            word, paths = verdict(chart, sayer)
            self.assertEqual(word, "plain")
            self.assertEqual(plain_paths(chart, paths), paths)
            key = (chart.reads, chart.limits, node_of(chart, paths))
            self.assertEqual(paths_for(chart, key), paths)
            self.assertTrue(reference.is_plain(family, key))
            trees = {at: tree_of_paths(path, path) for at, path in enumerate(paths)}
            asked = found_paths(chart, Pathing(chart, paths), leads_of(chart, trees), list(trees), 0)
            self.assertEqual([asked[at] for at in trees], paths)

    def test_steps_without_need_are_left_out(self):
        family, comparison = ORDERS[4]
        chart = chart_of(family, first(under(0, "price"), by("price")))
        paths = verdict(chart, Comparing(chart, comparison))[1]
        longer = [((7, "", ""), (0, "", ""), *[(number + 3, way, field) for number, way, field in path]) for path in paths]
        self.assertEqual(plain_paths(chart, longer), paths)
        # As deep as no function could call itself.
        deep = [(*[(0, "", "")] * 5000, *path) for path in paths]
        self.assertEqual(plain_paths(chart, deep), paths)

    def test_cells_that_are_like_others(self):
        for family, comparison in (*ORDERS, *[row[1:] for row in BROKEN]):
            chart = chart_of(family, comparison)
            if len(chart.cells) > 40:
                continue
            sayer = Comparing(chart, comparison)
            for at, like in enumerate(sayer.firsts()):
                self.assertLessEqual(like, at)
                self.assertEqual(chart.cells[like][1], chart.cells[at][1])
                for other in range(len(chart.cells)):
                    self.assertEqual(said_of(sayer, at, other), said_of(sayer, like, other))
                    self.assertEqual(said_of(sayer, other, at), said_of(sayer, other, like))


def leaves(tree):
    return [tree] if isinstance(tree, str) else [*leaves(tree[2]), *leaves(tree[3])]


def grafted(tree, rests):
    """A tree with other trees in the place of its words."""
    if isinstance(tree, str):
        return rests[tree]
    return ("if", tree[1], grafted(tree[2], rests), grafted(tree[3], rests))


if __name__ == "__main__":
    unittest.main()
