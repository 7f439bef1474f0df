"""The looks of fillings [31], and the views of a family [32]."""

import itertools
import random
import unittest

from hushedpages.blocks import record_of
from hushedpages.books import filled
from hushedpages.curtains import Curtains
from hushedpages.errors import BadStep, TooMany, TooTall, TooWide
from hushedpages.families import family, filling_of, first_stems
from hushedpages.looks import look_with, views_of
from hushedpages.sheets import look_of, settled
from model import BOOK, BOTH, HERE, LONG, STYLES, TIMES, all_stems

S = (12, 3, 1, (), (), (), (0, 0, 0, 0, 0))
WHO = (("who", 2, (("a", "n"), ("b", "o", "b")), ("",)),)


class LooksTest(unittest.TestCase):
    def test_a_look(self):
        blank = " " * 12
        self.assertEqual(look_with(HERE, WHO, S, ("bob",)), ((blank[1:] + "1", blank, "### x       ", blank, blank),))
        self.assertEqual(look_with(HERE, WHO, S, ("an",)), ((blank[1:] + "1", blank, "## x        ", blank, blank),))
        self.assertEqual(look_with((), WHO, S, ("an",)), ())
        # Any strings do that make words.
        self.assertEqual(look_with(HERE, WHO, S, ("xyz",)), look_with(HERE, WHO, S, ("bob",)))

    def test_a_look_is_that_of_the_filled_record(self):
        for record, style, stems in itertools.product((HERE, BOTH, TIMES, LONG), STYLES, all_stems(BOOK)[::3]):
            self.assertEqual(look_with(record, BOOK, style, stems), look_of(settled(filled(record, BOOK, stems), style)[0]))

    def test_all_stems_of_a_filling_have_one_look(self):
        for record, style in itertools.product((HERE, BOTH, TIMES, LONG), STYLES):
            looks = {}
            for stems in all_stems(BOOK):
                filling = filling_of(BOOK, STYLES, stems)
                look = look_with(record, BOOK, style, stems)
                self.assertEqual(looks.setdefault(filling, look), look)

    def test_no_sign_of_a_struck_word_is_seen(self):
        # These signs of the words stand nowhere else in the records, and there are not so many pages.
        for record, style, stems in itertools.product((BOTH, LONG), STYLES, all_stems(BOOK)):
            signs = "".join(row for page in look_with(record, BOOK, style, stems) for row in page[2:])
            self.assertFalse(set("mwz037'") & set(signs))

    def test_sheets_hang_on_struck_words_only_by_their_shapes(self):
        for record, style in itertools.product((HERE, BOTH, TIMES, LONG), STYLES):
            told = {}
            for stems in all_stems(BOOK):
                sheets, numbers, rings = settled(filled(record, BOOK, stems), style)
                # Where no cover is, the same signs stand; and the same cells are covered.
                beside = [[("".join(sign for sign, over in zip(*strip) if over == " "), strip[1]) for strip in page]
                          for page in sheets]
                filling = filling_of(BOOK, STYLES, stems)
                self.assertEqual(told.setdefault(filling, (beside, numbers, rings)), (beside, numbers, rings))

    def test_views(self):
        steps = (("rows",), ("keep", 1))
        for record, which in itertools.product((HERE, BOTH, TIMES, LONG, ()), (0, 1)):
            expected = tuple(Curtains(steps)(look_with(record, BOOK, STYLES[which], first_stems(BOOK, STYLES, filling)))
                             for filling in family(BOOK, STYLES))
            self.assertEqual(views_of(record, BOOK, STYLES, which, steps), expected)

    def test_views_without_steps(self):
        told = views_of(HERE, WHO, (S,), 0, ())
        self.assertEqual(told, tuple((look_with(HERE, WHO, S, (stem,)), ()) for stem in ("an", "bob")))

    def test_fillings_that_are_alike_at_a_level_are_alike_at_all_further_ones(self):
        dice = random.Random(31)
        steps = (("wide", 1), ("even", 3), ("rows",), ("blocks",), ("pages",), ("all",))
        for _ in range(12):
            row = tuple(dice.choice(steps) for _ in range(dice.randrange(7)))
            views = views_of(dice.choice((HERE, BOTH, LONG)), BOOK, STYLES, dice.randrange(2), row)
            self.assertEqual({len(looks) for looks in views}, {len(row) + 2})
            self.assertEqual({looks[-1] for looks in views}, {()})
            for looks, others in itertools.combinations(views, 2):
                alike = [look == other for look, other in zip(looks, others)]
                self.assertEqual(alike, sorted(alike))

    def test_the_errors_of_setting(self):
        for text, error in (("@par{aaaaaaaaaaaaa}", TooWide), ("@figure{3}{}", TooTall)):
            self.assertRaises(error, look_with, record_of(text), WHO, S, ("an",))
            self.assertRaises(error, views_of, record_of(text), WHO, (S,), 0, ())

    def test_the_first_filling_that_cannot_be_set(self):
        book = (("who", 1, (("a",), ("b",) * 8), ("", "cccccc")),)
        for text, error in (("@par{@hole{who}{1}}", TooWide), ("@par{@hole{who}{1}} @figure{3}{}", TooTall)):
            self.assertRaises(error, views_of, record_of(text), book, (S,), 0, ())
        self.assertEqual(look_with(record_of("@par{@hole{who}{1}}"), book, S, ("a",))[0][2], "#" * 7 + " " * 5)

    def test_the_order_of_the_errors(self):
        letters = "abcdefghijklmnopqrstuvwxyz"
        styles = tuple((12, 3, 1, tuple((sign, 1 + at // 3 ** place % 3) for at, sign in enumerate(letters) if at // 3 ** place % 3),
                        (), (), (0, 0, 0, 0, 0)) for place in range(4))
        shapes = (("who", 1, ((letters, letters, letters),), ("",)),)
        fillings = tuple((name, 1, tuple(("a",) * (at + 1) for at in range(5)), ("",)) for name in "xyz")
        wide = record_of("@par{aaaaaaaaaaaaa}")
        seven, wrong = (("none",),) * 7, (("all",), ("none",))
        for book, told, steps, error, worth in (
                (shapes, styles, seven, TooMany, {"part": "shapes"}), (shapes + fillings, styles, wrong, TooMany, {"part": "shapes"}),
                (fillings, (S,), seven, TooMany, {"part": "fillings"}), (WHO, (S,), seven, TooMany, {"part": "steps"}),
                (WHO, (S,), wrong, BadStep, {"at": 1}), (WHO, (S,), (), TooWide, {"part": "word"})):
            with self.assertRaises(error) as caught:
                views_of(wide, book, told, 0, steps)
            self.assertEqual(vars(caught.exception), worth)


if __name__ == "__main__":
    unittest.main()
