"""All examples of the document."""

import doctest
import unittest

EXAMPLES = r"""
>>> from keybehind.families import Family
>>> WARES = ("ware", (), ("price",))
>>> SHOP = Family((("cost", "money"), ("pages", "size"), ("price", "money")), WARES, ("book", ("ware",), ("pages",)), ("pen", ("ware",), ("cost",)))
>>> TIMES = Family((("begin", "time"), ("end", "time")), ("span", (), ("begin", "end")))
>>> BELOW = ("less", ("a", "price"), ("b", "price"))
>>> ABOVE = ("less", ("b", "price"), ("a", "price"))
>>> PRICES = ("if", BELOW, "less", ("if", ABOVE, "greater", "alike"))
>>> OVER = ("if", ("less", ("a", "end"), ("b", "begin")), "less", ("if", ("less", ("b", "end"), ("a", "begin")), "greater", "alike"))
>>> [SHOP.line("pen"), SHOP.fields_of("pen"), SHOP.is_heir("pen", "ware"), SHOP.measures]
[('pen', 'ware'), ('cost', 'price'), True, ('money', 'size')]
>>> PEN, BOOK = SHOP.record("pen", price=2500, cost=700), SHOP.record("book", pages=90, price=5000)
>>> [PEN, SHOP.value(BOOK, "price"), SHOP.value(BOOK, "cost"), SHOP.text.split("\n")[4]]
[('pen', (700, 2500)), 5000, None, 'kind book : ware ; pages']
>>> from keybehind.cells import cell_of, cells_of
>>> SPAN = (("span", "begin"), ("span", "end"))
>>> cell_of(TIMES, SPAN, (), ("span", (15, 30)))
('span', (('time', (((), ('begin',)), ((), ('end',)))),))
>>> [len(cells_of(TIMES, SPAN, ())), len(cells_of(TIMES, SPAN, (("time", 2000),))), cells_of(SHOP, (), ())]
[3, 13, (('book', ()), ('pen', ()), ('ware', ()))]
>>> from keybehind.conditions import read_comparison, says, written
>>> [says(SHOP, PRICES, PEN, BOOK), says(SHOP, PRICES, PEN, PEN)]
['less', 'alike']
>>> written(PRICES)
'if a.price < b.price then less else if b.price < a.price then greater else alike'
>>> read_comparison(SHOP, "if (a is pen and not b is pen) then less else alike")
('if', ('and', ('is', 'a', 'pen'), ('not', ('is', 'b', 'pen'))), 'less', 'alike')
>>> [says(TIMES, OVER, ("span", (15, 30)), ("span", (0, 10))), says(TIMES, OVER, ("span", (15, 30)), ("span", (5, 20)))]
['greater', 'alike']
>>> from keybehind.judging import broken_holds, judge
>>> [judge(TIMES, OVER)[0], broken_holds(TIMES, OVER, (("span", (15, 30)), ("span", (5, 20)), ("span", (0, 10))))]
['broken', True]
>>> judge(SHOP, PRICES)[1][:2]
((('book', 'price'), ('pen', 'price'), ('ware', 'price')), ())
>>> judge(SHOP, ("if", ("is", "a", "pen"), ("if", ("is", "b", "pen"), "alike", "less"), ("if", ("is", "b", "pen"), "greater", "alike")))
('key', ((), (), (('alike', (('pen', ()),)), ('alike', (('book', ()), ('ware', ()))))))
>>> from keybehind.orders import Order
>>> NESTED = Order.by(TIMES, "begin", "-end")
>>> [NESTED.place(("span", (3, 8))), NESTED.place(("span", (3, 3))), NESTED.place(("span", (3, 1)))]
[(0, 3, 0, -8, 0), (0, 3, 1), (0, 3, 2, -1, 0)]
>>> [block[0] for block in NESTED.key[2][0][3]]
['by', 'alike', 'by']
>>> BEGINS = Order.by(TIMES, "begin")
>>> [BEGINS + "-end" == NESTED, "begin" + NESTED == NESTED, BEGINS <= NESTED, -(-NESTED) == NESTED, (NESTED & Order.by(TIMES, "begin", "end")) == BEGINS]
[True, True, True, True, True]
>>> Order.by(SHOP, "price") == Order(SHOP, PRICES)
True
>>> from keybehind.runs import obstacle, row_with, runs
>>> LATE = ("less", 2000, ("a", "begin"))
>>> [runs(BEGINS, LATE), runs(BEGINS, ("not", ("same", ("a", "begin"), 2000))), runs(BEGINS, ("less", ("a", "end"), 0)), runs(-BEGINS, ("or",))]
[1, 2, None, 0]
>>> [obstacle(NESTED, BEGINS, LATE), obstacle(BEGINS, NESTED, LATE) is None]
[None, False]
>>> from keybehind.operators import Operators
>>> CLASSES = Operators(SHOP, ("ware", "<", ("if", BELOW, "yes", "no")))
>>> WARE = SHOP.record("ware", price=3000)
>>> [CLASSES.ask("<", PEN, WARE), CLASSES.ask(">", PEN, WARE), CLASSES.ask("<=", PEN, WARE)]
['yes', 'no', 'refused']
>>> [CLASSES.by_less() == Order.by(SHOP, "price"), CLASSES.refused(">"), CLASSES.refused("<=") is None]
[True, None, False]
>>> COSTS = Operators(SHOP, ("ware", "<", ("if", BELOW, "yes", "no")), ("pen", ">", ("if", ("less", ("b", "cost"), ("a", "cost")), "yes", "other")))
>>> len(COSTS.asked("<", WARE, PEN))
2
>>> from keybehind.drafts import Draft
>>> from keybehind.shelves import Shelf
>>> SHELF = Shelf(Order.by(SHOP, "-price"), PEN, BOOK)
>>> SHELF.put(WARE, PEN)
>>> [SHELF.rows, SHELF.span(PEN), SHELF[("is", "a", "pen")]]
[(('book', (90, 5000)), ('ware', (3000,)), ('pen', (700, 2500)), ('pen', (700, 2500))), (2, 4), (('pen', (700, 2500)), ('pen', (700, 2500)))]
>>> DRAFT = Draft(BEGINS)
>>> DRAFT += "end"
>>> DRAFT[LATE] = NESTED
>>> [DRAFT.order.limits, len(DRAFT), DRAFT.undo(), DRAFT.order == Order.by(TIMES, "begin", "end")]
[(('time', 2000),), 2, None, True]
"""


class Examples(unittest.TestCase):
    def test_each_one(self):
        found = doctest.DocTestParser().get_doctest(EXAMPLES, {}, "examples", None, 0)
        runner = doctest.DocTestRunner(verbose=False)
        runner.run(found)
        self.assertEqual(runner.failures, 0)
        self.assertGreater(runner.tries, 50)


if __name__ == "__main__":
    unittest.main()
