"""States of stacks, the nets of columns, and the least columns [24]."""

import itertools
import random
import unittest

from hushedpages.columns import column_net, least_columns, states
from hushedpages.errors import TooTall
from hushedpages.nets import least_way

ROW = (0, 1, 0)
GAP = (None, 0, 0)
FIXED = (None, 1, 0)


def states_of(stack):
    rows, figures = stack
    ends = [j for j, row in enumerate(rows) if row[1] == 1] + [len(rows)]
    return [(j, q) for j in ends for q in range(len(figures) + 1)]


def net_one_by_one(depth, late, stack):
    """The net by going through all pairs of states."""
    rows, figures = stack
    places = states_of(stack)
    n, m = len(rows), len(figures)
    arcs = []
    for tail, head in itertools.product(range(len(places)), repeat=2):
        (i, p), (j, q) = places[tail], places[head]
        if tail == head or i > j or p > q:
            continue
        held = list(range(i, j))
        if held and j < n and rows[j - 1][1] == 0:
            held.pop()
        foot = sum(rows[entry][2] for entry in held)
        height = len(held) + sum(figures[k][0] for k in range(p, q)) + (foot + 1 if foot else 0)
        known = [k for k in range(m) if figures[k][1] < j or j == n]
        if height > depth or any(k not in known for k in range(p, q)):
            continue
        if j not in (i, n) and rows[j][0] is None:
            continue
        cost = 0 if (j, q) == (n, m) else (depth - height) ** 2
        if j not in (i, n):
            cost += rows[j][0]
        cost += late * len([k for k in known if k >= q])
        arcs.append((tail, head, cost))
    return len(places), tuple(sorted(arcs))


def random_stack(dice):
    kinds = []
    for _ in range(dice.randrange(9)):
        if kinds and kinds[-1] and dice.random() < 0.3:
            kinds.append(0)
        kinds.append(1)
    rows = []
    for kind in kinds:
        price = dice.choice((0, 0, 0, 4, 9, None)) if rows and kind else 0 if kind else None
        rows.append((price, kind, dice.choice((0, 0, 0, 1, 2)) if kind else 0))
    ends = [j for j, row in enumerate(rows) if row[1]] + [len(rows)]
    knowns = sorted(dice.choice(ends) for _ in range(dice.choice((0, 0, 1, 2, 3))))
    return tuple(rows), tuple((dice.randrange(1, 5), known) for known in knowns)


class ColumnsTest(unittest.TestCase):
    def check(self, depth, late, stack, *columns):
        self.assertEqual(column_net(depth, late, stack), net_one_by_one(depth, late, stack))
        self.assertEqual(least_columns(depth, late, stack), columns)

    def refused(self, depth, late, stack):
        self.assertEqual(column_net(depth, late, stack), net_one_by_one(depth, late, stack))
        with self.assertRaises(TooTall):
            least_columns(depth, late, stack)

    def test_the_example_of_the_document(self):
        self.check(3, 0, ((ROW,) * 4, ()), (0, 0), (3, 0), (4, 0))

    def test_states(self):
        self.assertEqual(states(((), ())), ((0, 0),))
        self.assertEqual(states(((), ((2, 0), (3, 0)))), ((0, 0), (0, 1), (0, 2)))
        self.assertEqual(states(((ROW, GAP, FIXED), ((2, 2),))), ((0, 0), (0, 1), (2, 0), (2, 1), (3, 0), (3, 1)))

    def test_nothing(self):
        self.assertEqual(column_net(3, 9, ((), ())), (1, ()))
        self.check(3, 9, ((), ()), (0, 0))

    def test_one_column(self):
        self.check(3, 0, ((ROW,) * 3, ()), (0, 0), (3, 0))
        self.assertEqual(column_net(3, 0, ((ROW,) * 2, ())), (3, ((0, 1, 4), (0, 2, 0), (1, 2, 0))))

    def test_a_gap_at_the_end_of_a_column_is_not_held(self):
        stack = ((ROW, ROW, ROW, GAP, ROW, ROW), ())
        self.check(3, 0, stack, (0, 0), (4, 0), (6, 0))
        self.assertIn((0, 3, 0), column_net(3, 0, stack)[1])
        # Amid a column a gap takes up a row.
        self.check(3, 0, ((ROW, GAP, ROW, ROW), ()), (0, 0), (3, 0), (4, 0))
        self.check(4, 0, ((ROW, GAP, ROW, ROW), ()), (0, 0), (4, 0))

    def test_a_break_that_is_not_allowed(self):
        self.check(3, 0, ((ROW, ROW, ROW, FIXED), ()), (0, 0), (2, 0), (4, 0))
        self.check(3, 0, ((ROW, ROW, GAP, FIXED), ()), (0, 0), (1, 0), (4, 0))
        self.refused(3, 0, ((ROW, FIXED, FIXED, FIXED), ()))
        self.check(4, 0, ((ROW, FIXED, FIXED, FIXED), ()), (0, 0), (4, 0))
        self.refused(3, 0, ((ROW, FIXED, GAP, FIXED), ()))

    def test_prices_of_breaks(self):
        for price, at in ((0, 3), (1, 2), (2, 2), (9, 2)):
            self.check(3, 0, ((ROW, ROW, ROW, (price, 1, 0), ROW), ()), (0, 0), (at, 0), (5, 0))

    def test_feet(self):
        # The row of signs above the notes takes up a row, too.
        note = (0, 1, 1)
        self.check(4, 0, ((note, ROW), ()), (0, 0), (2, 0))
        self.check(3, 0, ((note, ROW), ()), (0, 0), (1, 0), (2, 0))
        self.check(5, 0, ((note, note), ()), (0, 0), (2, 0))
        self.check(4, 0, ((note, note), ()), (0, 0), (1, 0), (2, 0))
        self.refused(2, 0, ((note,), ()))
        self.check(3, 0, ((note,), ()), (0, 0), (1, 0))
        self.refused(4, 0, ((ROW, (0, 1, 3)), ()))
        self.check(5, 0, ((ROW, (0, 1, 3)), ()), (0, 0), (1, 0), (2, 0))

    def test_figures_that_are_known_in_the_middle(self):
        # The figure is known from entry 2 on: to columns that end behind it.
        stack = ((ROW,) * 4, ((2, 2),))
        self.check(6, 0, stack, (0, 0), (4, 1))
        self.check(5, 0, stack, (0, 0), (3, 1), (4, 1))
        arcs = column_net(5, 0, stack)[1]
        places = states_of(stack)
        self.assertNotIn((places.index((0, 0)), places.index((2, 1))), [arc[:2] for arc in arcs])
        self.assertIn((places.index((0, 0)), places.index((3, 1)), 0), arcs)

    def test_figures_that_wait(self):
        # Two rows and the figure do not fit, and with one row it is not yet known.
        stack = ((ROW,) * 4, ((3, 1),))
        for late, columns in ((0, ((4, 0), (4, 1))), (8, ((4, 0), (4, 1))), (9, ((1, 0), (2, 1), (4, 1)))):
            self.check(4, late, stack, (0, 0), *columns)
        stack = ((ROW,) * 6, ((3, 1), (3, 4)))
        for late, columns in ((0, ((2, 1), (6, 1), (6, 2))), (7, ((2, 1), (6, 1), (6, 2))), (8, ((2, 1), (4, 1), (6, 2)))):
            self.check(5, late, stack, (0, 0), *columns)

    def test_the_price_late(self):
        # Either the first column is full without the figure, which is late then, or it ends at a break of price 5.
        stack = ((ROW, (5, 1, 0), (5, 1, 0), ROW, ROW, ROW), ((2, 0),))
        for late, columns in ((0, ((4, 0), (6, 1))), (4, ((4, 0), (6, 1))), (5, ((2, 1), (6, 1))), (999, ((2, 1), (6, 1)))):
            self.check(4, late, stack, (0, 0), *columns)

    def test_costs_of_columns(self):
        stack = ((ROW,) * 5, ((2, 1), (2, 1)))
        arcs = dict(((tail, head), cost) for tail, head, cost in column_net(4, 3, stack)[1])
        places = states_of(stack)
        for begin, end, cost in (((0, 0), (1, 0), 9), ((0, 0), (2, 0), 4 + 6), ((0, 0), (2, 1), 3), ((0, 0), (4, 0), 6),
                                 ((0, 0), (3, 2), None), ((4, 0), (5, 1), 1 + 3), ((4, 0), (5, 0), 9 + 6), ((4, 0), (5, 2), None),
                                 ((4, 1), (5, 2), 0), ((4, 0), (4, 1), 4 + 3), ((4, 0), (4, 2), 0), ((5, 0), (5, 2), 0),
                                 ((5, 0), (5, 1), 4 + 3), ((1, 0), (1, 1), None), ((1, 1), (2, 1), 9 + 3)):
            self.assertEqual(arcs.get((places.index(begin), places.index(end))), cost, (begin, end))

    def test_columns_of_figures_alone(self):
        self.check(4, 0, ((), ((2, 0), (2, 0), (3, 0))), (0, 0), (0, 2), (0, 3))
        self.check(4, 7, ((ROW,), ((4, 1),)), (0, 0), (1, 0), (1, 1))
        self.check(4, 0, ((ROW, ROW, ROW), ((4, 1), (4, 1))), (0, 0), (3, 0), (3, 1), (3, 2))
        self.check(4, 10, ((ROW,) * 5, ((4, 0), (4, 0))), (0, 0), (4, 0), (4, 1), (4, 2), (5, 2))
        self.refused(3, 0, ((ROW,), ((4, 1),)))
        self.check(4, 0, ((ROW,), ((3, 1), (4, 1))), (0, 0), (1, 1), (1, 2))

    def test_several_layouts_of_one_cost(self):
        # One row, then two, or two rows, then one; read from the end, the lesser state decides.
        stack = ((ROW, ROW, ROW, ROW, FIXED), ())
        self.assertEqual(least_way(net_one_by_one(2, 0, stack)), (1, (0, 1, 3, 5)))
        self.check(2, 0, stack, (0, 0), (1, 0), (3, 0), (5, 0))
        # A break of price 1, or a row less.
        self.check(2, 0, ((ROW, ROW, (1, 1, 0), ROW), ()), (0, 0), (2, 0), (4, 0))
        self.check(2, 0, ((ROW, ROW, (2, 1, 0), ROW), ()), (0, 0), (1, 0), (3, 0), (4, 0))

    def test_no_layout(self):
        self.refused(3, 0, ((ROW,), ((4, 0),)))
        self.refused(3, 0, ((ROW, FIXED, FIXED, FIXED), ()))
        self.refused(3, 0, (((0, 1, 3),), ()))

    def test_random_stacks(self):
        dice = random.Random(24)
        none = 0
        for _ in range(600):
            stack = random_stack(dice)
            depth, late = dice.randrange(3, 7), dice.choice((0, 1, 5, 50))
            net = net_one_by_one(depth, late, stack)
            self.assertEqual(states(stack), tuple(states_of(stack)))
            self.assertEqual(column_net(depth, late, stack), net, (depth, late, stack))
            least = least_way(net)
            if least is None:
                none += 1
                self.refused(depth, late, stack)
            else:
                self.assertEqual(least_columns(depth, late, stack), tuple(states(stack)[node] for node in least[1]))
        self.assertGreater(none, 50)
        self.assertLess(none, 400)

    def test_a_large_stack(self):
        rows = tuple((at % 7, 1, 2 if at % 9 == 0 else 0) for at in range(400))
        figures = tuple((3, 10 * at) for at in range(15))
        told = least_columns(40, 100, (rows, figures))
        self.assertEqual((told[0], told[-1]), ((0, 0), (400, 15)))


if __name__ == "__main__":
    unittest.main()
