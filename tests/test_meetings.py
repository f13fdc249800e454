"""Meetings: all ways in which the values of records of some cells can lie, as far as a comparison asks for them."""

import random
import unittest
from itertools import product

from keybehind.charts import Chart
from keybehind.deciding import noted
from keybehind.families import Family
from keybehind.meetings import arranged, chain_of, joined, outcomes, records_in, records_of
from keybehind.parsing import SAID
from keybehind.trees import settled, word_in
from tests import reference, samples
from tests.helpers import SHOP, TIMES
from tests.reference import PAIRS, SHELVES, SINGLE, TRIPLE, cell

LAYOUTS = Family(
    (("p", "m"), ("q", "m"), ("r", "n"), ("s", "n")),
    ("k", (), ("p", "q")),
    ("l", (), ("q", "r", "s")),
    ("j", (), ("s",)),
)
# The records have every field read, so that a comparison can ask for any of them.
CHARTS = (
    (TIMES, ()),
    (TIMES, (("time", 0),)),
    (PAIRS, ()),
    (SHELVES, ()),
    (SHOP, ()),
    (SHOP, (("money", 0), ("size", 0))),
    (SINGLE, (("money", 0), ("money", 1000))),
    (LAYOUTS, ()),
    (LAYOUTS, (("m", 0), ("n", 0))),
)


def whole_chart(family, limits):
    reads = tuple(sorted((kind, field) for kind in family.names for field in family.fields_of(kind)))
    return Chart(family, reads, limits)


def tree_between(chart, comparison, one, other):
    return settled(noted(chart, comparison), one, other)


class Meetings(unittest.TestCase):
    def comparisons(self, choice, family, limits, times):
        tests = samples.tests_of(family, "ab", [limit for _, limit in limits])
        across = [
            test
            for test in tests
            if test[0] != "is" and {"a", "b"} == {side[0] for side in test[1:] if isinstance(side, tuple)}
        ]
        return [
            samples.tree_from(choice, across if choice.random() < 0.7 else tests, choice.randint(1, 4))
            for _ in range(times)
        ]

    def test_all_words_of_two_cells(self):
        choice = random.Random(41)
        many = 0
        for family, limits in CHARTS:
            chart = whole_chart(family, limits)
            records = {}
            for record in reference.all_ways(family, [limit for _, limit in limits], 2):
                records.setdefault(cell(family, chart.reads, chart.limits, record), []).append(record)
            for comparison in self.comparisons(choice, family, limits, 30):
                word = reference.worded(family, comparison)
                one, other = choice.choices(range(len(chart.cells)), k=2)
                tree = tree_between(chart, comparison, one, other)
                chain = chain_of(chart.cells[one], 0)
                for asked, turned in (
                    ((tree, 0, 1, SAID), False),
                    ((tree_between(chart, comparison, other, one), 1, 0, SAID), True),
                ):
                    found = outcomes(chart, chain, 1, other, (asked,))
                    rows = product(
                        choice.sample(records[chart.cells[one]], min(40, len(records[chart.cells[one]]))),
                        records[chart.cells[other]],
                    )
                    due = {word(s, r) if turned else word(r, s) for r, s in rows}
                    self.assertLessEqual(due, {words[0] for words, _ in found})
                    for words, spans in found:
                        r, s = records_in(chart, joined(chart, chain, other, spans, 1), (one, other))
                        self.assertEqual(
                            [cell(family, chart.reads, chart.limits, record) for record in (r, s)],
                            [chart.cells[one], chart.cells[other]],
                        )
                        self.assertEqual(words[0], word(s, r) if turned else word(r, s))
                        many = many + 1
        self.assertGreater(many, 800)

    def test_three_records(self):
        choice = random.Random(42)
        many = 0
        for family, limits in (*CHARTS, (TRIPLE, ())):
            chart = whole_chart(family, limits)
            for comparison in self.comparisons(choice, family, limits, 15):
                word = reference.worded(family, comparison)
                cells = choice.choices(range(len(chart.cells)), k=3)
                chain = chain_of(chart.cells[cells[0]], 0)
                words, spans = choice.choice(
                    outcomes(
                        chart, chain, 1, cells[1], ((tree_between(chart, comparison, cells[1], cells[0]), 1, 0, SAID),)
                    )
                )
                chain = joined(chart, chain, cells[1], spans, 1)
                pairs = ((0, 1), (1, 0), (0, 2), (2, 1), (1, 2), (2, 0))
                asked = [
                    (tree_between(chart, comparison, cells[one], cells[other]), one, other, SAID)
                    for one, other in pairs
                ]
                for words, spans in choice.sample(
                    found := outcomes(chart, chain, 2, cells[2], asked), min(10, len(found))
                ):
                    longer = joined(chart, chain, cells[2], spans, 2)
                    records = records_in(chart, longer, cells)
                    self.assertEqual(
                        [cell(family, chart.reads, chart.limits, record) for record in records],
                        [chart.cells[at] for at in cells],
                    )
                    self.assertEqual(words, tuple(word(records[one], records[other]) for one, other in pairs))
                    many = many + 1
        self.assertGreater(many, 400)

    def test_each_way_once(self):
        # Two values beside two others of one measure can lie in 13 ways; if all are asked for, each is found once.
        chart = whole_chart(PAIRS, ())
        tests = [
            (word, (one, x), (other, y))
            for word in ("less", "same")
            for one, other in ("ab", "ba")
            for x in ("low", "high")
            for y in ("low", "high")
        ]
        for one, other in product(range(3), repeat=2):
            groups = [len(chart.cells[at][1][0][1]) for at in (one, other)]
            found = outcomes(
                chart, chain_of(chart.cells[one], 0), 1, other, ((self.asking(chart, tests, one, other), 0, 1, SAID),)
            )
            lying = {
                reference.lying(
                    PAIRS,
                    (),
                    *records_in(chart, joined(chart, chain_of(chart.cells[one], 0), other, spans, 1), (one, other)),
                )
                for _, spans in found
            }
            self.assertEqual(
                [len(found), len(lying)], [{(1, 1): 3, (1, 2): 5, (2, 1): 5, (2, 2): 13}[tuple(groups)]] * 2
            )

    def test_all_ways_of_two_cells(self):
        # Every way in which the values of two records can lie is there once, whatever is asked.
        for family, limits in (*CHARTS, (TRIPLE, ())):
            chart = whole_chart(family, limits)
            records = reference.all_ways(family, [limit for _, limit in limits], 2)
            by_cell = {}
            for record in records:
                by_cell.setdefault(cell(family, chart.reads, chart.limits, record), []).append(record)
            choice = random.Random(43)
            for one, other in [choice.choices(range(len(chart.cells)), k=2) for _ in range(12)]:
                chain = chain_of(chart.cells[one], 0)
                found = [
                    reference.lying(
                        family, chart.limits, *records_in(chart, joined(chart, chain, other, spans, 1), (one, other))
                    )
                    for spans in arranged(chart, chain, other)
                ]
                self.assertEqual(len(found), len(set(found)))
                rows = product(by_cell[chart.cells[one]], by_cell[chart.cells[other]])
                self.assertLessEqual({reference.lying(family, chart.limits, r, s) for r, s in rows}, set(found))
                pair = records_of(chart, (one, other))
                self.assertIn(reference.lying(family, chart.limits, *pair), found)
                three = records_of(chart, (one, other, one))
                self.assertEqual([chart.numbers[cell(family, chart.reads, chart.limits, record)] for record in three], [one, other, one])

    def asking(self, chart, tests, one, other):
        """A tree that asks for all of the tests, one after the other, whatever the answers are."""
        tree = "alike"
        for test in tests:
            tree = ("if", ("or", test, ("not", test)), tree, "less")
        return tree_between(chart, tree, one, other)

    def test_words_in_spans(self):
        less, same = ("less", ("a", "x"), ("b", "y")), ("same", ("b", "y"), ("a", "x"))
        tree = ("if", less, "less", ("if", same, "alike", "greater"))
        for span, other, due in (
            ((1, 1), (1, 1), "alike"),
            ((1, 1), (2, 2), "less"),
            ((3, 3), (2, 2), "greater"),
            ((0, 2), (3, 3), "less"),
            ((4, 6), (3, 3), "greater"),
            ((0, 3), (3, 3), ("x", "y")),
            ((3, 3), (3, 5), ("x", "y")),
            ((3, 3), (0, 6), ("x", "y")),
        ):
            self.assertEqual(word_in(tree, {"x": span}, {"y": other}), due)
        self.assertEqual(
            word_in(("if", ("not", ("less", ("b", "y"), ("a", "x"))), "less", "greater"), {"x": (1, 1)}, {"y": (1, 1)}),
            "less",
        )
        self.assertEqual(
            word_in(
                ("if", ("and", less, same), "less", ("if", ("or", less, same), "alike", "greater")),
                {"x": (1, 1)},
                {"y": (3, 3)},
            ),
            "alike",
        )


if __name__ == "__main__":
    unittest.main()
