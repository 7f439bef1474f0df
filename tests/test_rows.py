"""Rows of words set to a measure as strips [19]."""

import random
import unittest

from hushedpages.errors import TooWide
from hushedpages.lines import least_lines
from hushedpages.rows import set_words
from hushedpages.shapes import shape_of

PLAIN = (12, 3, 1, (), (), (), (0, 0, 0, 0, 0))
STYLE = (12, 3, 1, (("m", 2), ("w", 3)), (("w", "a", 2), ("w", "w", 2)), (("a", "n", 5), ("b", "b", 0)), (20, 0, 0, 0, 0))


def row(text):
    """Words of a text; those that begin with # are struck."""
    return tuple((word[1:], 1) if word[0] == "#" else (word, 0) for word in text.split())


def signs(strips):
    return tuple(strip[0] for strip in strips)


class RowsTest(unittest.TestCase):
    def check(self, style, measure, text, strips, ragged=False):
        told = set_words(style, measure, row(text), ragged)
        self.assertEqual(told, tuple(strips))
        self.assertEqual(told, set_words(style, measure, row(text), ragged=ragged))
        for line, cover in told:
            self.assertEqual((len(line), len(cover)), (measure, measure))

    def refused(self, style, measure, text):
        for ragged in (False, True):
            with self.assertRaises(TooWide) as caught:
                set_words(style, measure, row(text), ragged)
            self.assertEqual(caught.exception.part, "word")

    def test_one_word(self):
        self.check(PLAIN, 5, "abc", [("abc  ", "     ")])
        self.check(PLAIN, 3, "abc", [("abc", "   ")])
        self.check(PLAIN, 5, "#abc", [("abc  ", "###  ")])
        self.check(PLAIN, 1, "a", [("a", " ")])
        self.check(STYLE, 6, "mw", [("m_w__ ", "      ")])
        self.refused(PLAIN, 2, "abc")
        self.refused(STYLE, 4, "mw")

    def test_the_example_of_the_document(self):
        self.check(PLAIN, 7, "aa bb cc #dd", [("aa   bb", "       "), ("cc dd  ", "   ##  ")])

    def test_one_gap_takes_all_that_is_left(self):
        for measure in range(7, 12):
            self.assertEqual(signs(set_words(PLAIN, measure, row("aaa bbb ccccccc"))),
                             ("aaa" + " " * (measure - 6) + "bbb", "ccccccc".ljust(measure)))

    def test_gaps_that_do_not_part_evenly(self):
        # Gap j of g gaps is 1 + (j * e) // g - ((j - 1) * e) // g wide.
        for rest, line in ((0, "a b c d"), (1, "a b c  d"), (2, "a b  c  d"), (3, "a  b  c  d"), (4, "a  b  c   d"),
                           (5, "a  b   c   d"), (6, "a   b   c   d")):
            measure = 7 + rest
            self.assertEqual(signs(set_words(PLAIN, measure, row("a b c d " + "e" * measure))), (line, "e" * measure))
        for rest, line in ((1, "a b  c"), (2, "a  b  c"), (3, "a  b   c"), (4, "a   b   c"), (5, "a   b    c")):
            measure = 5 + rest
            self.assertEqual(signs(set_words(PLAIN, measure, row("a b c " + "e" * measure))), (line, "e" * measure))

    def test_a_line_without_gaps_stands_on_the_left(self):
        self.check(PLAIN, 6, "aaaa bbbbbb c", [("aaaa  ", "      "), ("bbbbbb", "      "), ("c     ", "      ")])

    def test_the_last_line(self):
        self.check(PLAIN, 9, "a b", [("a b      ", "         ")])
        self.check(PLAIN, 4, "aaa b c", [("aaa ", "    "), ("b c ", "    ")])

    def test_ragged_rows(self):
        text = "aa b ccc dd e fffffff gg"
        self.assertEqual(signs(set_words(PLAIN, 9, row(text))), ("aa      b", "ccc dd  e", "fffffff  ", "gg       "))
        self.assertEqual(signs(set_words(PLAIN, 9, row(text), True)), ("aa b     ", "ccc dd e ", "fffffff  ", "gg       "))

    def test_struck_words(self):
        self.check(PLAIN, 8, "#a bb #c eeeeeeee", [("a  bb  c", "#      #"), ("eeeeeeee", " " * 8)])
        self.check(PLAIN, 8, "a #bb c #eeeeeeee", [("a  bb  c", "   ##   "), ("eeeeeeee", "#" * 8)])
        self.check(STYLE, 8, "#wm #ma", [("w__m_   ", "#####   "), ("m_a     ", "###     ")])
        self.check(STYLE, 9, "wm #ma x", [("w__m_ m_a", "      ###"), ("x        ", " " * 9)])

    def test_parted_words(self):
        self.check(STYLE, 5, "xxbbxx", [("xxb- ", "     "), ("bxx  ", "     ")])
        self.check(STYLE, 5, "#xxbbxx", [("xxb- ", "#### "), ("bxx  ", "###  ")])
        self.check(STYLE, 4, "#xbbxbbxbbx", [("xb- ", "### "), ("bxb-", "####"), ("bxb-", "####"), ("bx  ", "##  ")])
        self.check(STYLE, 8, "#mmbbmm aa x", [("m_m_b-  ", "######  "), ("bm_m_ aa", "#####   "), ("x       ", " " * 8)])

    def test_parted_words_with_gaps(self):
        style = STYLE[:5] + ((("a", "n", 5), ("b", "b", 0)),) + STYLE[6:]
        self.check(style, 7, "y xxbbxxx z", [("y  xxb-", "       "), ("bxxx z ", "       ")])
        self.check(style, 7, "y #xxbbxxx z", [("y  xxb-", "   ####"), ("bxxx z ", "####   ")])
        self.check(style, 7, "y #xxbbxxx #z", [("y xxb- ", "  #### "), ("bxxx z ", "#### # ")], ragged=True)

    def test_signs_at_a_parting(self):
        # The cut of w ahead of a is saved only where both stand in one piece; the hyphen stands behind the `_`.
        style = PLAIN[:3] + ((("w", 3),), (("w", "a", 2),), (("w", "a", 0),)) + PLAIN[6:]
        self.check(style, 6, "xxwaxxx", [("xxw__-", " " * 6), ("axxx  ", " " * 6)])
        self.check(style, 7, "#xxwaxxx", [("xxwaxxx", "#" * 7)])

    def test_words_that_cannot_be_set(self):
        self.refused(PLAIN, 4, "a bbbbb c")
        self.refused(STYLE, 3, "xxbbxx")
        self.refused(STYLE, 5, "aaaaaaan")

    def test_the_measure_is_not_that_of_the_style(self):
        self.assertEqual(signs(set_words(PLAIN, 40, row("a b"))), ("a b".ljust(40),))
        self.assertEqual(signs(set_words(PLAIN, 2, row("a b"))), ("a ", "b "))
        self.assertEqual(len(set_words(PLAIN, 100, row("word " * 60))), 3)

    def test_the_ladder_of_the_style(self):
        # Lines that begin and end at a parting cost ladder more, which is the first one of the prices.
        text = "xx xbbxbbxxx"
        self.assertEqual([shape_of(STYLE, word) for word, _ in row(text)], [(2, ()), (9, ((3, 7, 0), (6, 4, 0)))])
        for ladder, lines in ((0, ("xx xb-", "bxb-  ", "bxxx  ")), (13, ("xx    ", "xbbxb-", "bxxx  "))):
            style = STYLE[:6] + ((ladder, 99, 99, 99, 99),)
            self.assertEqual(signs(set_words(style, 6, row(text))), lines)

    def test_random_rows(self):
        dice = random.Random(19)
        for _ in range(200):
            words = tuple(("".join(dice.choice("amnwxbb") for _ in range(dice.randrange(1, 9))), dice.randrange(2))
                          for _ in range(dice.randrange(1, 9)))
            self.check_signs(words, dice.randrange(16, 40), dice.random() < 0.3)

    def check_signs(self, words, measure, ragged):
        shapes = tuple(shape_of(STYLE, word) for word, _ in words)
        strips = set_words(STYLE, measure, words, ragged)
        self.assertEqual(len(strips), len(least_lines(measure, 20, shapes)) - 1)
        told, covers = "", ""
        for number, (line, cover) in enumerate(strips):
            self.assertNotEqual(line[0], " ")
            gaps = [len(gap) for gap in "".join(" " if sign == " " else "x" for sign in line.rstrip()).split("x") if gap]
            if ragged or number == len(strips) - 1:
                self.assertEqual(set(gaps) - {1}, set())
            elif gaps:
                self.assertNotEqual(line[-1], " ")
                self.assertLessEqual(max(gaps) - min(gaps), 1)
            parts, at = line.split(), 0
            for part in parts:
                at = line.index(part, at)
                self.assertIn(cover[at:at + len(part)], (" " * len(part), "#" * len(part)))
                whole = not part.endswith("-")
                told += part.replace("_", "").rstrip("-") + (" " if whole else "")
                covers += (cover[at] if whole else "")
                at += len(part)
            self.assertEqual(sum(sign == "#" for sign in cover),
                             sum(sign == "#" for at, sign in enumerate(cover) if line[at] != " "))
        self.assertEqual(told.split(), [word for word, _ in words])
        self.assertEqual(covers, "".join("#" if struck else " " for _, struck in words))


if __name__ == "__main__":
    unittest.main()
