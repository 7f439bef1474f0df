"""Nets, least ways, bounds, and the judge of papers [17]."""

import itertools
import random
import unittest

from hushedpages.nets import bounds_of, judge_bounds, least_way


def all_ways(net):
    """All ways of a net with their totals."""
    many, arcs = net
    costs = {(tail, head): cost for tail, head, cost in arcs}
    found = []
    for inner in itertools.chain.from_iterable(itertools.combinations(range(1, many - 1), k) for k in range(many)):
        way = (0, *inner, many - 1) if many > 1 else (0,)
        if all(step in costs for step in zip(way, way[1:])):
            found.append((sum(costs[step] for step in zip(way, way[1:])), way))
    return found


def random_net(dice, many):
    pairs = [pair for pair in itertools.combinations(range(many), 2) if dice.random() < 0.6]
    return many, tuple((tail, head, dice.choice((0, 0, 1, 2, 3))) for tail, head in pairs)


def is_right_paper(net, total, bounds):
    """Point 17 once more, in other words."""
    many, arcs = net
    if len(bounds) != many or bounds[0] != 0 or bounds[-1] != total:
        return False
    numbered = [arc for arc in arcs if bounds[arc[0]] is not None]
    return all(bounds[head] is not None and bounds[head] <= bounds[tail] + cost for tail, head, cost in numbered)


class NetsTest(unittest.TestCase):
    def test_one_node(self):
        net = (1, ())
        self.assertEqual(least_way(net), (0, (0,)))
        self.assertEqual(bounds_of(net), (0,))
        self.assertIs(judge_bounds(net, 0, (0,)), True)
        for total, bounds in ((0, ()), (0, (0, 0)), (1, (1,)), (None, (None,)), (None, (0,)), (0, (None,)), (-1, (-1,))):
            self.assertIs(judge_bounds(net, total, bounds), False)

    def test_no_way(self):
        for net, bounds in (((2, ()), (0, None)), ((3, ((0, 1, 4),)), (0, 4, None)), ((3, ((1, 2, 4),)), (0, None, None)),
                            ((4, ((0, 1, 0), (2, 3, 0))), (0, 0, None, None))):
            self.assertIsNone(least_way(net))
            self.assertEqual(bounds_of(net), bounds)
            self.assertIs(judge_bounds(net, None, bounds), True)
            self.assertIs(judge_bounds(net, 0, bounds), False)

    def test_the_least_total(self):
        net = (4, ((0, 1, 5), (0, 2, 1), (0, 3, 9), (1, 3, 0), (2, 3, 3)))
        self.assertEqual(least_way(net), (4, (0, 2, 3)))
        self.assertEqual(bounds_of(net), (0, 5, 1, 4))
        # Lists of arcs by which a node is reached later at less cost.
        net = (4, ((0, 1, 1), (0, 2, 9), (1, 2, 1), (2, 3, 1)))
        self.assertEqual(least_way(net), (3, (0, 1, 2, 3)))

    def test_several_least_ways(self):
        # Read from the last node backward: 3, 1, 0 is less than 3, 2, 0.
        self.assertEqual(least_way((4, ((0, 1, 1), (0, 2, 1), (1, 3, 1), (2, 3, 1)))), (2, (0, 1, 3)))
        # 4, 1, 0 is less than 4, 3, 0 and than 4, 2, 1, 0; and 3, 0 is less than 3, 1, 0.
        self.assertEqual(least_way((5, ((0, 1, 0), (0, 3, 0), (1, 2, 0), (1, 4, 0), (2, 4, 0), (3, 4, 0)))), (0, (0, 1, 4)))
        self.assertEqual(least_way((4, ((0, 1, 0), (0, 3, 0), (1, 2, 0), (1, 3, 0), (2, 3, 0)))), (0, (0, 3)))
        # 4, 2, 0 is less than 4, 2, 1, 0 but both are less than 4, 3, 0, though this one begins with greater nodes.
        net = (5, ((0, 1, 0), (0, 2, 2), (0, 3, 1), (1, 2, 2), (2, 4, 1), (3, 4, 2)))
        self.assertEqual(least_way(net), (3, (0, 2, 4)))

    def test_great_costs(self):
        big = 10 ** 30
        net = (3, ((0, 1, big), (0, 2, 2 * big), (1, 2, big - 1)))
        self.assertEqual(least_way(net), (2 * big - 1, (0, 1, 2)))
        self.assertEqual(bounds_of(net), (0, big, 2 * big - 1))

    def test_random_nets(self):
        dice = random.Random(17)
        none = 0
        for _ in range(400):
            net = random_net(dice, dice.randrange(1, 8))
            ways = all_ways(net)
            none += not ways
            best = min(ways, key=lambda told: (told[0], told[1][::-1])) if ways else None
            self.assertEqual(least_way(net), best)
            bounds = bounds_of(net)
            for node in range(net[0]):
                inner = (node + 1, tuple(arc for arc in net[1] if arc[1] <= node))
                self.assertEqual(bounds[node], min((total for total, _ in all_ways(inner)), default=None))
            self.assertIs(judge_bounds(net, best[0] if best else None, bounds), True)
        self.assertGreater(none, 20)

    def test_other_papers(self):
        dice = random.Random(18)
        taken = 0
        for _ in range(3000):
            net = random_net(dice, dice.randrange(1, 5))
            bounds = list(bounds_of(net))
            for _ in range(dice.randrange(3)):
                bounds[dice.randrange(len(bounds))] = dice.choice((None, None, -1, 0, 1, 2, 3, 1000000, -1000000))
            if dice.random() < 0.1:
                bounds.append(bounds[-1])
            elif dice.random() < 0.1:
                bounds.pop()
            total = dice.choice((None, -1, 0, 1, 2) + (bounds[-1],) * 9) if bounds else 0
            right = is_right_paper(net, total, bounds)
            taken += right
            self.assertIs(judge_bounds(net, total, tuple(bounds)), right, (net, total, bounds))
        self.assertGreater(taken, 300)

    def test_papers_of_one_net(self):
        net = (4, ((0, 1, 5), (0, 2, 1), (1, 3, 0), (2, 3, 3)))
        for total, bounds in ((4, (0, 5, 1, 4)), (4, (0, 4, 1, 4)), (3, (0, 5, 0, 3)), (-9, (0, -2, -5, -9))):
            self.assertIs(judge_bounds(net, total, bounds), True, bounds)
        for total, bounds in ((5, (0, 5, 1, 4)), (5, (0, 5, 1, 5)), (4, (1, 5, 1, 4)), (4, (None, 5, 1, 4)), (None, (0, 5, 1, None)),
                              (4, (0, None, 1, 4)), (4, (0, 5, None, 4)), (None, (0, 5, 1, 4)), (4, (0, 6, 1, 4)), (4, (0, 3, 1, 4)),
                              (4, (0, 5, 1, 4, 4)), (1, (0, 5, 1)), (4, ()), (4, (0, 5, 1, None))):
            self.assertIs(judge_bounds(net, total, bounds), False, bounds)

    def test_numbers_where_no_way_leads(self):
        net = (4, ((1, 2, 1), (2, 3, 1)))
        self.assertIs(judge_bounds(net, None, (0, None, None, None)), True)
        self.assertIs(judge_bounds(net, 7, (0, 5, 6, 7)), True)
        self.assertIs(judge_bounds(net, None, (0, 5, 6, None)), False)


if __name__ == "__main__":
    unittest.main()
