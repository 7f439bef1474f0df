"""Positions, the nets of lines, and the least lines [18]."""

import itertools
import random
import unittest

from hushedpages.errors import TooWide
from hushedpages.lines import least_lines, line_net, positions
from hushedpages.shapes import shape_of

STYLE = (12, 3, 1, (("m", 2), ("w", 3)), (("w", "a", 2), ("w", "w", 2)), (("a", "n", 5), ("b", "b", 0), ("w", "a", 7)),
         (0, 0, 0, 0, 0))


def shapes_of(text, style=STYLE):
    return tuple(shape_of(style, word) for word in text.split())


def words_of(*widths):
    """The shapes of words of these widths that cannot be parted."""
    return tuple((width, ()) for width in widths)


def pieces_between(shapes, begin, end):
    """The widths of the pieces of a line."""
    found = []
    for at, (width, partings) in enumerate(shapes):
        first = begin[1] if at == begin[0] else 0
        last = end[1] if at == end[0] else 0
        if begin[0] <= at < end[0] or at == end[0] and last > 0:
            if first and last:
                found.append(partings[first - 1][1] + partings[last - 1][0] - width)
            elif last:
                found.append(partings[last - 1][0])
            else:
                found.append(partings[first - 1][1] if first else width)
    return found


def net_one_by_one(measure, ladder, shapes):
    """The net by going through all pairs of positions."""
    places = [(at, parting) for at, (_, partings) in enumerate(shapes) for parting in range(len(partings) + 1)]
    places.append((len(shapes), 0))
    arcs = []
    for tail, head in itertools.combinations(range(len(places)), 2):
        begin, end = places[tail], places[head]
        pieces = pieces_between(shapes, begin, end)
        width = sum(pieces) + len(pieces) - 1
        if width <= measure:
            cost = 0 if head == len(places) - 1 else (measure - width) ** 2
            if end[1]:
                cost += shapes[end[0]][1][end[1] - 1][2] + (ladder if begin[1] else 0)
            arcs.append((tail, head, cost))
    return len(places), tuple(arcs)


class LinesTest(unittest.TestCase):
    def refused(self, measure, ladder, shapes):
        with self.assertRaises(TooWide) as caught:
            least_lines(measure, ladder, shapes)
        self.assertEqual(caught.exception.part, "word")

    def test_positions(self):
        self.assertEqual(positions(words_of(3)), ((0, 0), (1, 0)))
        self.assertEqual(positions(shapes_of("xx bananana y")),
                         ((0, 0), (1, 0), (1, 1), (1, 2), (1, 3), (2, 0), (3, 0)))
        self.assertEqual(positions(shapes_of("bana bana")), ((0, 0), (0, 1), (1, 0), (1, 1), (2, 0)))

    def test_a_row_of_one_word(self):
        self.assertEqual(line_net(6, 9, words_of(6)), (2, ((0, 1, 0),)))
        self.assertEqual(line_net(7, 9, words_of(6)), (2, ((0, 1, 0),)))
        self.assertEqual(line_net(5, 9, words_of(6)), (2, ()))
        self.assertEqual(least_lines(6, 0, words_of(6)), ((0, 0), (1, 0)))
        self.refused(5, 0, words_of(6))

    def test_lines_that_just_fill_the_measure(self):
        # Two words and the blank between them take up 7 units.
        shapes = words_of(3, 3, 4)
        self.assertEqual(line_net(7, 0, shapes), (4, ((0, 1, 16), (0, 2, 0), (1, 2, 16), (2, 3, 0))))
        self.assertEqual(line_net(6, 0, shapes), (4, ((0, 1, 9), (1, 2, 9), (2, 3, 0))))
        self.assertEqual(line_net(8, 0, shapes), (4, ((0, 1, 25), (0, 2, 1), (1, 2, 25), (1, 3, 0), (2, 3, 0))))
        self.assertEqual(least_lines(7, 0, shapes), ((0, 0), (2, 0), (3, 0)))
        self.assertEqual(least_lines(6, 0, shapes), ((0, 0), (1, 0), (2, 0), (3, 0)))
        self.assertEqual(least_lines(12, 0, shapes), ((0, 0), (3, 0)))
        self.assertEqual(least_lines(11, 0, shapes), ((0, 0), (2, 0), (3, 0)))

    def test_the_last_line_costs_nothing(self):
        self.assertEqual(line_net(60, 0, words_of(1, 1)), (3, ((0, 1, 59 * 59), (0, 2, 0), (1, 2, 0))))
        self.assertEqual(least_lines(60, 0, words_of(1, 1)), ((0, 0), (2, 0)))

    def test_words_wider_than_the_measure(self):
        shapes = shapes_of("xxanyy")
        self.assertEqual(shapes, ((6, ((4, 3, 5),)),))
        self.assertEqual(least_lines(6, 0, shapes), ((0, 0), (1, 0)))
        self.assertEqual(least_lines(5, 0, shapes), ((0, 0), (0, 1), (1, 0)))
        self.assertEqual(least_lines(4, 0, shapes), ((0, 0), (0, 1), (1, 0)))
        self.refused(3, 0, shapes)
        self.refused(5, 0, shapes_of("xx xxxyyy xx"))
        self.refused(1, 0, shapes_of("a aa"))
        self.assertEqual(least_lines(1, 0, shapes_of("a a")), ((0, 0), (1, 0), (2, 0)))

    def test_the_price_of_a_parting(self):
        # The first line is 3 units short; with the parting it is full, at a price.
        for price, lines in ((8, ((0, 0), (1, 1), (2, 0))), (9, ((0, 0), (1, 0), (2, 0))), (10, ((0, 0), (1, 0), (2, 0)))):
            shapes = ((3, ()), (4, ((2, 3, price),)))
            self.assertEqual(line_net(6, 0, shapes),
                             (4, ((0, 1, 9), (0, 2, price), (1, 2, 16 + price), (1, 3, 0), (2, 3, 0))))
            self.assertEqual(least_lines(6, 0, shapes), lines)

    def test_the_price_ladder(self):
        # The line from parting to parting costs ladder more; one that only begins, or ends, at a parting does not.
        shapes = ((6, ((4, 3, 5), (5, 2, 6))), (4, ((3, 2, 7),)), (9, ()))
        net = dict(((tail, head), cost) for tail, head, cost in line_net(9, 100, shapes)[1])
        free = dict(((tail, head), cost) for tail, head, cost in line_net(9, 0, shapes)[1])
        self.assertEqual(set(net), set(free))
        begins_and_ends = {(1, 2), (1, 4), (2, 4)}
        self.assertEqual({key for key in net if net[key] == free[key] + 100}, begins_and_ends)
        self.assertEqual({key for key in net if net[key] == free[key]}, set(net) - begins_and_ends)
        self.assertEqual(free[0, 1], 25 + 5)
        self.assertEqual(free[1, 4], (9 - (3 + 1 + 3)) ** 2 + 7)
        self.assertEqual(free[1, 3], (9 - 3) ** 2)
        self.assertEqual(least_lines(4, 0, ((9, ((4, 6, 0), (7, 3, 0))),)), ((0, 0), (0, 1), (0, 2), (1, 0)))

    def test_the_price_ladder_tells_which_lines(self):
        # Either the first line is full and two lines end at partings, or the second word begins a line.
        shapes = ((2, ()), (9, ((3, 8, 0), (6, 5, 0))))
        for ladder in (0, 14, 15, 16, 999):
            self.assertEqual(line_net(6, ladder, shapes),
                             (5, ((0, 1, 16), (0, 2, 0), (1, 2, 9), (1, 3, 0), (2, 3, 1 + ladder), (3, 4, 0))))
            self.assertEqual(least_lines(6, ladder, shapes), ((0, 0), (1, 1 if ladder < 15 else 0), (1, 2), (2, 0)))

    def test_a_word_that_is_parted_more_than_once(self):
        shapes = shapes_of("xbbxbbxbbx")
        self.assertEqual(shapes, ((10, ((3, 8, 0), (6, 5, 0), (9, 2, 0))),))
        self.assertEqual(least_lines(4, 0, shapes), ((0, 0), (0, 1), (0, 2), (0, 3), (1, 0)))
        self.assertEqual(least_lines(6, 0, shapes), ((0, 0), (0, 2), (1, 0)))
        self.assertEqual(least_lines(7, 999, shapes), ((0, 0), (0, 2), (1, 0)))
        self.refused(3, 0, shapes)

    def test_a_longer_piece_can_be_narrower(self):
        # With its hyphen the beginning takes up 6 units, but the whole word only 5: w is cut by 2 ahead of a.
        shapes = shapes_of("xxwab xxx")
        self.assertEqual(shapes[0], (5, ((6, 2, 7),)))
        self.assertEqual(line_net(5, 0, shapes), (4, ((0, 2, 0), (1, 2, 9), (2, 3, 0))))
        self.assertEqual(line_net(6, 0, shapes), (4, ((0, 1, 7), (0, 2, 1), (1, 2, 16), (1, 3, 0), (2, 3, 0))))
        shapes = shapes_of("xxx yywab")
        self.assertEqual(least_lines(9, 0, shapes), ((0, 0), (2, 0)))
        self.assertEqual(line_net(9, 0, shapes)[1], ((0, 1, 36), (0, 3, 0), (1, 2, 9 + 7), (1, 3, 0), (2, 3, 0)))

    def test_several_breakings_of_one_cost(self):
        shapes = words_of(2, 2, 2, 5)
        self.assertEqual(line_net(5, 0, shapes)[1], ((0, 1, 9), (0, 2, 0), (1, 2, 9), (1, 3, 0), (2, 3, 9), (3, 4, 0)))
        # The first three words cost 9 + 0 or 0 + 9; read from the end, the lesser position decides.
        self.assertEqual(least_lines(5, 0, shapes), ((0, 0), (1, 0), (3, 0), (4, 0)))
        # Parting at a price as high as what it saves: the lesser position is the beginning of the word.
        self.assertEqual(least_lines(6, 0, ((3, ()), (4, ((2, 3, 9),)))), ((0, 0), (1, 0), (2, 0)))

    def test_random_rows(self):
        dice = random.Random(18)
        for _ in range(300):
            words = ["".join(dice.choice("amnwxbb") for _ in range(dice.randrange(1, 10)))
                     for _ in range(dice.randrange(1, 7))]
            shapes = tuple(shape_of(STYLE, word) for word in words)
            measure, ladder = dice.randrange(1, 25), dice.choice((0, 0, 5, 100))
            net = line_net(measure, ladder, shapes)
            self.assertEqual(net, net_one_by_one(measure, ladder, shapes), words)
            self.check_least(net, measure, ladder, shapes)

    def check_least(self, net, measure, ladder, shapes):
        best = {0: (0, (0,))}
        for tail, head, cost in net[1]:
            if tail in best:
                way = (best[tail][0] + cost, (head,) + best[tail][1])
                best[head] = min(best.get(head, way), way)
        if net[0] - 1 not in best:
            self.refused(measure, ladder, shapes)
        else:
            places = positions(shapes)
            way = tuple(places[node] for node in best[net[0] - 1][1][::-1])
            self.assertEqual(least_lines(measure, ladder, shapes), way)

    def test_a_long_row(self):
        shapes = words_of(*[1 + at % 7 for at in range(300)])
        lines = least_lines(60, 0, shapes)
        self.assertEqual((lines[0], lines[-1]), ((0, 0), (300, 0)))
        many = shapes_of("bbbbbbbbbbbbbbbb " * 100)
        self.assertEqual(len(positions(many)), 1401)
        self.assertEqual(least_lines(60, 0, many)[-1], (100, 0))


if __name__ == "__main__":
    unittest.main()
