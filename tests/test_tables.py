"""Tables: boundaries, chains, the judge of chains, and strips [20]."""

import itertools
import random
import unittest

from hushedpages.errors import TooWide
from hushedpages.tables import boundaries, chain_of, judge_chain, table_strips

PLAIN = (12, 3, 1, (), (), (), (0, 0, 0, 0, 0))
CELLS = ((0, 1, 2), (1, 1, 3), (0, 2, 8))


def demands_of(tracks, cells):
    """The direct demands, pair by pair."""
    found = {}
    for p, q in itertools.combinations(range(tracks + 1), 2):
        widths = [w + 1 for c, s, w in cells if (c, c + s) == (p, q)]
        if widths or q == p + 1:
            found[p, q] = max(widths, default=1)
    return found


def right_chains(tracks, cells, boundary):
    """All chains that end at a boundary, each with its sum."""
    demands = demands_of(tracks, cells)
    for many in range(boundary + 1):
        for inner in itertools.combinations(range(1, boundary), many):
            chain = (0, *inner, boundary) if boundary else (0,)
            if all(pair in demands for pair in zip(chain, chain[1:])):
                yield sum(demands[pair] for pair in zip(chain, chain[1:])), chain


def random_table(dice):
    tracks = dice.randrange(1, 7)
    cells = []
    for _ in range(dice.randrange(8)):
        c = dice.randrange(tracks)
        cells.append((c, dice.randrange(1, tracks - c + 1), dice.choice((0, 0, 1, 2, 3, 5, 8))))
    return tracks, tuple(cells)


def row(*cells):
    """A row of cells; each is a text of words, or a pair of a span and this. A word that begins with # is struck."""
    told = [cell if isinstance(cell, tuple) else (1, cell) for cell in cells]
    return tuple((span, tuple((word[1:], 1) if word[0] == "#" else (word, 0) for word in text.split()))
                 for span, text in told)


class TablesTest(unittest.TestCase):
    def test_the_example_of_the_document(self):
        self.assertEqual(boundaries(2, CELLS), (0, 3, 9))
        self.assertEqual(chain_of(2, CELLS, 2), (0, 2))

    def test_boundaries(self):
        for tracks, cells, bounds in (
                (1, (), (0, 1)), (1, ((0, 1, 0),), (0, 1)), (1, ((0, 1, 5),), (0, 6)), (4, (), (0, 1, 2, 3, 4)),
                (3, ((0, 1, 2), (0, 1, 4), (1, 1, 0), (2, 1, 1)), (0, 5, 6, 8)),
                # A span moves only the last one of its tracks.
                (3, ((0, 3, 9),), (0, 1, 2, 10)), (4, ((1, 2, 9), (3, 1, 1)), (0, 1, 2, 11, 13)),
                (3, ((0, 3, 1),), (0, 1, 2, 3)), (3, ((0, 2, 7), (1, 2, 7)), (0, 1, 8, 9)),
                (3, ((1, 2, 7), (0, 1, 3)), (0, 4, 5, 12))):
            self.assertEqual(boundaries(tracks, cells), bounds, cells)

    def test_random_tables(self):
        dice = random.Random(20)
        for _ in range(300):
            tracks, cells = random_table(dice)
            bounds = boundaries(tracks, cells)
            # From no room at all, each boundary is moved only as far as something needs, until nothing does.
            least = [0] * (tracks + 1)
            while True:
                moved = [max([least[q]] + [least[q - 1] + 1] * (q > 0) + [least[c] + w + 1 for c, s, w in cells if c + s == q])
                         for q in range(tracks + 1)]
                if moved == least:
                    break
                least = moved
            self.assertEqual(bounds, tuple(least))
            for boundary in range(tracks + 1):
                chains = list(right_chains(tracks, cells, boundary))
                self.assertEqual(max(chains)[0], bounds[boundary])
                chain = chain_of(tracks, cells, boundary)
                self.assertEqual(chain, min(chain for total, chain in chains if total == bounds[boundary]))
                self.assertIs(judge_chain(tracks, cells, boundary, bounds[boundary], chain), True)
                for total, chain in chains:
                    self.assertIs(judge_chain(tracks, cells, boundary, total, chain), True)
                    self.assertIs(judge_chain(tracks, cells, boundary, total + dice.choice((-1, 1, 7)), chain), False)

    def test_any_papers(self):
        dice = random.Random(21)
        taken = 0
        for _ in range(3000):
            tracks, cells = random_table(dice)
            boundary = dice.randrange(tracks + 1)
            chains = dict((chain, total) for total, chain in right_chains(tracks, cells, boundary))
            chain = list(dice.choice(list(chains)))
            for _ in range(dice.randrange(3)):
                chain[dice.randrange(len(chain)):dice.randrange(len(chain) + 1)] = [dice.randrange(-1, tracks + 2)]
            value = chains.get(tuple(chain), 3) if dice.random() < 0.9 else dice.randrange(-1, 12)
            right = chains.get(tuple(chain)) == value
            taken += right
            self.assertIs(judge_chain(tracks, cells, boundary, value, tuple(chain)), right, (cells, chain, value))
        self.assertGreater(taken, 500)

    def test_the_chain_of_boundary_0(self):
        for tracks, cells in ((1, ()), (2, CELLS)):
            self.assertEqual(chain_of(tracks, cells, 0), (0,))
            self.assertIs(judge_chain(tracks, cells, 0, 0, (0,)), True)
            for value, chain in ((1, (0,)), (-1, (0,)), (0, ()), (0, (0, 0)), (1, (0, 1)), (0, (1,)), (0, (0, 1, 0))):
                self.assertIs(judge_chain(tracks, cells, 0, value, chain), False)

    def test_the_least_of_several_chains(self):
        # All ways to boundary 3 have the sum 3.
        self.assertEqual(chain_of(3, ((0, 2, 1), (1, 2, 1), (0, 3, 2)), 3), (0, 1, 2, 3))
        self.assertEqual(chain_of(3, ((0, 2, 2), (1, 2, 2)), 3), (0, 1, 3))
        self.assertEqual(chain_of(3, ((0, 2, 3), (1, 2, 1)), 3), (0, 2, 3))
        self.assertEqual(chain_of(4, ((0, 3, 9),), 2), (0, 1, 2))

    def test_papers_that_are_not_right(self):
        for value, chain in ((3 + 4, (0, 1, 2)), (9, (0, 2))):
            self.assertIs(judge_chain(2, CELLS, 2, value, chain), True)
        for value, chain in (
                (9, (0, 1, 2)), (7, (0, 2)), (8, (0, 2)), (10, (0, 2)), (3, (0, 1)), (9, ()), (9, (2,)), (4, (1, 2)), (9, (2, 0)),
                (9, (0, 2, 2)), (9, (0, 0, 2)), (7, (0, 2, 1, 2)), (9, (0, 3)), (9, (0, 2, 3)), (9, (0, -1, 2)), (9, (-1, 2)),
                (9, (0, 1000000, 2)), (1000000, (0, 2)), (-1000000, (0, 2)), (0, (0,))):
            self.assertIs(judge_chain(2, CELLS, 2, value, chain), False, chain)
        # Without a cell of this span there is no direct demand, though both boundaries are there.
        self.assertIs(judge_chain(3, ((0, 1, 4),), 3, 3, (0, 3)), False)
        self.assertIs(judge_chain(3, ((0, 1, 4),), 3, 7, (0, 1, 2, 3)), True)

    def test_great_widths(self):
        cells = ((0, 2, 10 ** 30), (1, 1, 5))
        self.assertEqual(boundaries(2, cells), (0, 1, 10 ** 30 + 1))
        self.assertEqual(chain_of(2, cells, 2), (0, 2))

    def test_many_tracks(self):
        cells = tuple((c, 2, 3) for c in range(0, 198, 2))
        self.assertEqual(boundaries(200, cells)[-1], 4 * 99 + 2)
        self.assertEqual(chain_of(200, cells, 200), tuple(range(0, 199, 2)) + (199, 200))


class TableStripsTest(unittest.TestCase):
    def check(self, rows, *strips, style=PLAIN):
        told = table_strips(style, tuple(rows))
        self.assertEqual(told, tuple((signs, cover.ljust(len(signs))) for signs, cover in strips))
        for signs, _ in told:
            self.assertEqual(len(signs), style[0])

    def refused(self, rows, style=PLAIN):
        with self.assertRaises(TooWide) as caught:
            table_strips(style, tuple(rows))
        self.assertEqual(caught.exception.part, "table")

    def test_one_track(self):
        self.check([row("a")], ("a           ", ""))
        self.check([row("a b"), row(""), row("cc dd")], ("a b         ", ""), (" " * 12, ""), ("cc dd       ", ""))

    def test_tracks_are_as_wide_as_they_must_be(self):
        self.check([row("a", "b", "c"), row("dd", "", "e"), row("f", "ggg")],
                   ("a  b   c    ", ""), ("dd     e    ", ""), ("f  ggg      ", ""))

    def test_empty_cells(self):
        self.check([row("", "", "a")], ("  a         ", ""))
        self.check([row("")], (" " * 12, ""))
        self.check([row((8, ""))], (" " * 12, ""))

    def test_spans(self):
        # The wide cell moves only the last boundary, so the cell below it in the third track stays where it is.
        self.check([row((3, "aaaaaaa"), "b"), row("c", "d", "e", "f")], ("aaaaaaa b   ", ""), ("c d e   f   ", ""))
        self.check([row((2, "aaaaa"), "b"), row("c", (2, "d"))], ("aaaaa b     ", ""), ("c d         ", ""))
        self.check([row((2, "aaaaa"), "b"), row("c", (2, "dddddd"))], ("aaaaa b     ", ""), ("c dddddd    ", ""))

    def test_rows_of_unlike_numbers_of_tracks(self):
        self.check([row("a"), row("b", "c", "d"), row((5, "e"))], ("a           ", ""), ("b c d       ", ""), ("e           ", ""))

    def test_just_as_wide_as_the_measure(self):
        self.check([row("aaaaa", "bbbbbb")], ("aaaaa bbbbbb", ""))
        self.check([row((8, "aaaaaaaaaaaa"))], ("a" * 12, ""))
        self.refused([row("aaaaa", "bbbbbbb")])
        self.refused([row((8, "aaaaaaaaaaaaa"))])
        self.refused([row("aaaaaa", "b"), row("c", "dddddd")])
        # Tracks in which nothing stands take up room, too.
        self.check([row("aaaaaa", "", "", "")], ("aaaaaa      ", ""))
        self.check([row("aaaaaaaaa", "", "", "")], ("aaaaaaaaa   ", ""))
        self.refused([row("aaaaaaaaaa", "", "", "")])

    def test_words_are_never_parted(self):
        style = PLAIN[:5] + ((("a", "a", 0),),) + PLAIN[6:]
        self.check([row("aaaaaaaaaaaa")], ("a" * 12, ""), style=style)
        self.refused([row("aaaaaaaaaaaaa")], style)
        self.refused([row("aaaaaa aaaaaa")], style)

    def test_struck_words_and_wide_characters(self):
        self.check([row("#a b", "#cc"), row("d", (2, "#eee f"))], ("a b cc      ", "#   ##"), ("d   eee f   ", "    ###"))
        style = PLAIN[:3] + ((("m", 2), ("w", 3)), (("w", "m", 1),)) + PLAIN[5:]
        self.check([row("#m", "wm"), row("", "#w")], ("m_ w_m_     ", "##"), ("   w__      ", "   ###"), style=style)
        self.check([row("mmmmmm")], ("m_" * 6, ""), style=style)
        self.refused([row("mmmmmma")], style)


if __name__ == "__main__":
    unittest.main()
