"""Charts and ties of sets of fillings [37]."""

import itertools
import random
import unittest

from hushedpages.charts import chart_of, read_chart, ties_of


def random_fillings(dice, places=None, most=3):
    """A set of fillings, ascending, not empty."""
    places = places or dice.randrange(1, 5)
    possible = list(itertools.product(range(most), repeat=places))
    return tuple(sorted(dice.sample(possible, dice.randrange(1, len(possible) + 1))))


def chart_by_rests(fillings):
    """The chart, from the rests of all beginnings as sets."""
    many = len(fillings[0])
    rests = []
    for i in range(many + 1):
        found = []
        for beginning in sorted({filling[:i] for filling in fillings}):
            rest = {filling[i:] for filling in fillings if filling[:i] == beginning}
            if rest not in found:
                found.append(rest)
        rests.append(found)
    chart = []
    for i in range(many):
        nodes = []
        for rest in rests[i]:
            nodes.append(tuple((x, rests[i + 1].index({told[1:] for told in rest if told[0] == x}))
                               for x in sorted({told[0] for told in rest})))
        chart.append(tuple(nodes))
    return tuple(chart)


def partitions(places):
    """All partitions of some places into bundles."""
    if not places:
        yield []
        return
    for many in range(len(places)):
        for others in itertools.combinations(places[1:], many):
            bundle = (places[0],) + others
            for rest in partitions([place for place in places if place not in bundle]):
                yield [bundle] + rest


def falls_apart(fillings, bundles):
    """Whether the set holds every tuple that agrees on each bundle with some filling of the set."""
    parts = [{tuple(filling[place] for place in bundle) for filling in fillings} for bundle in bundles]
    whole = set()
    for chosen in itertools.product(*parts):
        told = {place: x for bundle, part in zip(bundles, chosen) for place, x in zip(bundle, part)}
        whole.add(tuple(told[place] for place in sorted(told)))
    return whole == set(fillings)


class ChartsTest(unittest.TestCase):
    def check(self, fillings, chart):
        self.assertEqual(chart_of(fillings), chart)
        self.assertEqual(chart_by_rests(fillings), chart)
        self.assertEqual(read_chart(chart), fillings)

    def test_one_filling(self):
        self.check(((0,),), ((((0, 0),),),))
        self.check(((5,),), ((((5, 0),),),))
        self.check(((2, 0, 7),), ((((2, 0),),), (((0, 0),),), (((7, 0),),)))

    def test_all_fillings(self):
        self.check(tuple(itertools.product(range(2), repeat=3)), ((((0, 0), (1, 0)),),) * 3)
        self.check(tuple((k,) for k in range(9)), ((tuple((k, 0) for k in range(9)),),))

    def test_beginnings_that_have_equal_rests(self):
        self.check(((0, 0), (0, 1), (1, 0), (1, 1), (2, 0)), ((((0, 0), (1, 0), (2, 1)),), (((0, 0), (1, 0)), ((0, 0),))))
        # The least beginning tells the order of the nodes.
        self.check(((0, 1), (1, 0), (2, 1)), ((((0, 0), (1, 1), (2, 0)),), (((1, 0),), ((0, 0),))))

    def test_beginnings_that_have_different_rests(self):
        self.check(((0, 0, 0), (0, 1, 1), (1, 0, 1), (1, 1, 0)),
                   ((((0, 0), (1, 1)),), (((0, 0), (1, 1)), ((0, 1), (1, 0))), (((0, 0),), ((1, 0),))))

    def test_random_sets(self):
        dice = random.Random(37)
        for _ in range(300):
            fillings = random_fillings(dice)
            self.check(fillings, chart_by_rests(fillings))

    def test_six_places(self):
        dice = random.Random(38)
        for _ in range(20):
            possible = list(itertools.product(range(2), repeat=6))
            fillings = tuple(sorted(dice.sample(possible, dice.randrange(1, 65))))
            self.check(fillings, chart_by_rests(fillings))


class TiesTest(unittest.TestCase):
    def test_one_place(self):
        self.assertEqual(ties_of(((0,),)), ((0,),))
        self.assertEqual(ties_of(((0,), (3,))), ((0,),))

    def test_one_filling(self):
        self.assertEqual(ties_of(((4, 0, 1),)), ((0,), (1,), (2,)))

    def test_sets_that_fall_apart_whole(self):
        self.assertEqual(ties_of(tuple(itertools.product(range(2), range(3), range(2)))), ((0,), (1,), (2,)))

    def test_sets_that_do_not_fall_apart(self):
        self.assertEqual(ties_of(((0, 0), (1, 1))), ((0, 1),))
        self.assertEqual(ties_of(((0, 0), (0, 1), (1, 0))), ((0, 1),))
        # Each two places are free of one another, but not all three.
        self.assertEqual(ties_of(((0, 0, 0), (0, 1, 1), (1, 0, 1), (1, 1, 0))), ((0, 1, 2),))

    def test_bundles_that_are_not_neighbours(self):
        fillings = tuple(sorted((a, b, a, 1 - b) for a in range(2) for b in range(2)))
        self.assertEqual(ties_of(fillings), ((0, 2), (1, 3)))
        fillings = tuple(sorted((a, b, c, a) for a in range(2) for b in range(3) for c in range(2)))
        self.assertEqual(ties_of(fillings), ((0, 3), (1,), (2,)))

    def test_random_sets_against_all_partitions(self):
        dice = random.Random(39)
        kinds = set()
        for _ in range(250):
            fillings = self.random_product(dice)
            places = list(range(len(fillings[0])))
            found = [sorted(bundles) for bundles in partitions(places) if falls_apart(fillings, bundles)]
            finest = max(found, key=len)
            for bundles in found:
                self.assertTrue(all(any(set(bundle) <= set(whole) for whole in bundles) for bundle in finest))
            self.assertEqual(ties_of(fillings), tuple(finest))
            kinds.add(tuple(finest))
        self.assertGreater(len(kinds), 12)

    def random_product(self, dice):
        """A set that falls apart by some partition, and perhaps by a finer one."""
        bundles = dice.choice(list(partitions(list(range(dice.randrange(1, 6))))))
        parts = [random_fillings(dice, len(bundle), 2) for bundle in bundles]
        whole = []
        for chosen in itertools.product(*parts):
            told = {place: x for bundle, part in zip(bundles, chosen) for place, x in zip(bundle, part)}
            whole.append(tuple(told[place] for place in sorted(told)))
        return tuple(sorted(whole))


if __name__ == "__main__":
    unittest.main()
