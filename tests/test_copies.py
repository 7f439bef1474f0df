"""What copies from elsewhere tell [46]."""

import itertools
import random
import unittest

from hushedpages.blocks import record_of
from hushedpages.books import filled
from hushedpages.copies import stems_told, told_by
from hushedpages.curtains import draw
from hushedpages.errors import TooMany, TooTall, TooWide
from hushedpages.families import family, filling_of, first_stems
from hushedpages.joint import place_with
from hushedpages.looks import look_with, views_of
from hushedpages.sheets import print_of, settled
from hushedpages.stocks import stem_at, stems_many

PLAIN = (12, 3, 1, (), (), (), (0, 0, 0, 0, 0))
WIDE = (10, 5, 2, (("m", 2), ("w", 3)), (("m", "a", 1),), (("a", "b", 0), ("m", "b", 0), ("o", "b", 5)), (0, 0, 0, 0, 0))
WHO = ("who", 2, (("a", "mn"), ("b", "o", "bm")), ("", "'s"))
WHEN = ("when", 1, (("12", "0123"),), ("", "th", "b"))
TEXT = "@head{on @hole{when}} @par{here @hole{who} and @hole{who}{1} @note{@hole{when}{1}}} @table{@row{@cell{x} @cell{@hole{who}}}}"


def print_with(record, book, style, stems):
    return print_of(settled(filled(record, book, stems), style)[0])


def all_stems(book):
    return itertools.product(*[[stem_at(secret[2], k) for k in range(stems_many(secret[2]))] for secret in book])


def agrees(told, copy):
    """Whether a copy agrees with a print, cell by cell."""
    if len(told) < len(copy):
        return False
    for page, seen in zip(told, copy):
        if len(page) != len(seen) or any(len(row) != len(other) for row, other in zip(page, seen)):
            return False
        if any(other not in ("#", sign) for row, cells in zip(page, seen) for sign, other in zip(row, cells)):
            return False
    return True


def listed(record, book, styles, which, copy):
    """All tuples of stems that agree, in their order, by going through all of them."""
    found = []
    for stems in all_stems(book):
        if agrees(print_with(record, book, styles[which], stems), copy):
            places = [place_with(styles, secret, stem) for secret, stem in zip(book, stems)]
            found.append((tuple(shape for shape, _ in places), tuple(k for _, k in places), stems))
    return sorted(found)


def with_cells(pages, cells, sign=None):
    """Pages with some cells (page, row, column) covered, or with another sign there."""
    return tuple(tuple("".join((sign or "#") if (p, r, c) in cells else told for c, told in enumerate(row))
                       for r, row in enumerate(page)) for p, page in enumerate(pages))


class CopiesTest(unittest.TestCase):
    def check(self, record, book, styles, which, copy):
        """Compares what a copy tells with the list of all tuples of stems; how many agree."""
        expected = listed(record, book, styles, which, copy)
        fillings = {}
        for filling, _, _ in expected:
            fillings[filling] = fillings.get(filling, 0) + 1
        self.assertEqual(told_by(record, book, styles, which, copy), tuple(sorted(fillings.items())))
        for k in sorted({0, 1, len(expected) // 2, len(expected) - 1} & set(range(len(expected)))):
            self.assertEqual(stems_told(record, book, styles, which, copy, k), expected[k][2])
        return len(expected)

    def test_a_small_copy(self):
        book = (("who", 2, (("a", "n"), ("b", "o", "b")), ("",)),)
        record = record_of("@par{@hole{who} x}")
        blank = " " * 12
        for row, told, stems in (("an x".ljust(12), (((0,), 1),), ("an",)), ("### x".ljust(12), (((1,), 1),), ("bob",)),
                                 ("#" * 12, (((0,), 1), ((1,), 1)), ("an",)), ("#n x".ljust(12), (((0,), 1),), ("an",)),
                                 ("####x".ljust(12), (((1,), 1),), ("bob",)), ("## ##".ljust(12), (((0,), 1),), ("an",)),
                                 ("#o# x".ljust(12), (((1,), 1),), ("bob",)), ("bob y".ljust(12), (), None),
                                 ("bo# x".ljust(12), (((1,), 1),), ("bob",)), ("ba# x".ljust(12), (), None)):
            copy = ((blank[1:] + "1", blank, row, blank, blank),)
            self.assertEqual(told_by(record, book, (PLAIN,), 0, copy), told, row)
            if stems is not None:
                self.assertEqual(stems_told(record, book, (PLAIN,), 0, copy, 0), stems)

    def test_no_pages(self):
        book, styles = (WHO, WHEN), (PLAIN, WIDE)
        record = record_of(TEXT)
        many = self.check(record, book, styles, 1, ())
        self.assertEqual(many, stems_many(WHO[2]) * stems_many(WHEN[2]))
        told = [stems_told(record, book, styles, 1, (), k) for k in range(many)]
        self.assertEqual(told, [stems for _, _, stems in listed(record, book, styles, 1, ())])
        # A record without pages agrees with that, and with no other copy.
        self.assertEqual(told_by((), book, styles, 1, ()), told_by(record, book, styles, 1, ()))
        self.assertEqual(told_by((), book, styles, 1, ((" " * 12,) * 5,)), ())

    def test_fewer_and_more_pages(self):
        book = (WHO,)
        record = record_of("@par{a} @par{b} @par{@hole{who}} @par{c} @par{@hole{who}{1}}")
        for stems in (("bob",), ("an",), ("am",)):
            pages = print_with(record, book, PLAIN, stems)
            self.assertEqual(len(pages), 3)
            self.assertEqual([self.check(record, book, (PLAIN,), 0, pages[:many]) for many in range(4)], [4, 4, 1, 1])
            self.assertEqual(told_by(record, book, (PLAIN,), 0, pages + pages[:1]), ())
            self.assertEqual(told_by(record, book, (PLAIN,), 0, pages[1:]), ())

    def test_other_numbers_of_rows_and_other_widths(self):
        book = (WHO,)
        record = record_of("@par{@hole{who} x}")
        pages = print_with(record, book, PLAIN, ("bob",))
        covered = with_cells(pages, {(0, r, c) for r in range(5) for c in range(12)})
        self.assertEqual(self.check(record, book, (PLAIN,), 0, covered), 4)
        for page in (covered[0][:4], covered[0] + ("#" * 12,), ("#" * 11,) * 5, ("#" * 13,) * 5, ("#",), ("#" * 200,) * 200):
            self.assertEqual(told_by(record, book, (PLAIN,), 0, (page,)), ())

    def test_cells_uncovered_one_by_one(self):
        book, styles = (WHO, WHEN), (WIDE,)
        record = record_of(TEXT)
        for stems in (("bob", "13"), ("an", "20")):
            look = look_with(record, book, WIDE, stems)
            shown = print_with(record, book, WIDE, stems)
            covered = [(p, r, c) for p, page in enumerate(look) for r, row in enumerate(page) for c, sign in enumerate(row)
                       if sign == "#"]
            last = self.check(record, book, styles, 0, look)
            for many in range(0, len(covered) + 1, 3):
                now = self.check(record, book, styles, 0, with_cells(shown, set(covered[many:])))
                self.assertLessEqual(now, last)
                last = now
            self.assertEqual(last, 1)

    def test_other_signs(self):
        book = (WHO,)
        record = record_of("@par{@hole{who} x}")
        pages = print_with(record, book, PLAIN, ("bob",))
        for cell in ((0, 0, 0), (0, 0, 11), (0, 1, 3), (0, 2, 0), (0, 2, 2), (0, 2, 3), (0, 2, 4), (0, 4, 11)):
            for sign in "zm ~-_":
                self.check(record, book, (PLAIN,), 0, with_cells(pages, {cell}, sign))

    def test_words_that_are_parted(self):
        # Stems of one shape can be parted at different places. What is seen beside a look's covers does not tell
        # why they are there, so stems of another shape can agree with it, too.
        style = (8, 9, 1, (("m", 2),), (), (("b", "m", 0), ("m", "b", 0)), (0, 0, 0, 0, 0))
        secret = ("anna", 1, (("b", "am", "b", "am"),), (",", "a."))
        record = record_of("@par{xxx @hole{anna} xxxxx @hole{anna}{1} xx @hole{anna} @hole{anna}{1} xxxx @hole{anna}}")
        many = []
        for stem in ("babm", "bmba", "bmbm", "baba"):
            look = look_with(record, (secret,), style, (stem,))
            shown = print_with(record, (secret,), style, (stem,))
            covered = [(0, r, c) for r, row in enumerate(look[0]) for c, sign in enumerate(row) if sign == "#"]
            many.append(self.check(record, (secret,), (style,), 0, look))
            for cell in covered:
                self.check(record, (secret,), (style,), 0, with_cells(shown, set(covered) - {cell}))
        self.assertEqual(many, [2, 2, 3, 1])
        self.assertTrue(any(row.startswith("#") and row.strip("# ") == "" for row in look[0]))

    def test_struck_words_side_by_side_in_a_formula(self):
        book = (("a", 1, (("ab", "cd"),), ("",)), ("b", 1, (("xy",), ("x", "yz")), ("",)))
        record = record_of("@show{@up{@hole{a}} @up{@hole{a}} @low{@hole{b}} @over{@hole{a}}{@fence{@hole{b} @hole{a}}}}")
        style = (30, 9, 1, (), (), (), (0, 0, 0, 0, 0))
        dice = random.Random(46)
        for stems in itertools.product(("ac", "bd"), ("x", "xz")):
            shown = print_with(record, book, style, stems)
            look = look_with(record, book, style, stems)
            covered = [(0, r, c) for r, row in enumerate(look[0]) for c, sign in enumerate(row) if sign == "#"]
            for _ in range(15):
                self.check(record, book, (style,), 0, with_cells(shown, set(dice.sample(covered, dice.randrange(len(covered) + 1)))))

    def test_headings_are_told_everywhere(self):
        # The word stands in the heading, in the contents and in the head strips of several pages.
        book = (WHO, WHEN)
        record = record_of("@contents @head{@hole{who}{1} @hole{when}} @par{a} @par{b} @par{c} @index")
        shown = print_with(record, book, PLAIN, ("am", "12"))
        covered = look_with(record, book, PLAIN, ("am", "12"))
        places = [(p, r) for p, page in enumerate(covered) for r, row in enumerate(page) if "#" in row]
        self.assertGreater(len(places), 3)
        for place in places:
            cells = {(p, r, c) for p, r in places if (p, r) != place for c, sign in enumerate(covered[p][r]) if sign == "#"}
            self.assertEqual(self.check(record, book, (PLAIN,), 0, with_cells(shown, cells)), 1)

    def test_looks_at_all_levels(self):
        book, styles = (WHO, WHEN), (PLAIN, WIDE)
        record = record_of(TEXT)
        for steps in ((("wide", 1), ("even", 3), ("rows",)), (("blocks",), ("below",), ("keep", 1), ("all",)), (("pages",),)):
            views = views_of(record, book, styles, 1, steps)
            fillings = family(book, styles)
            for filling, looks in zip(fillings, views):
                for level, look in enumerate(looks):
                    told = dict(told_by(record, book, styles, 1, look))
                    for other, others in zip(fillings, views):
                        if others[level] == look:
                            self.assertEqual(told[other], self.many_of(book, styles, other))

    def many_of(self, book, styles, filling):
        return len([stems for stems in all_stems(book) if filling_of(book, styles, stems) == filling])

    def test_secrets_that_the_record_does_not_name(self):
        book = (WHO, WHEN)
        record = record_of("@par{@hole{who}}")
        self.assertEqual(self.check(record, book, (WIDE, PLAIN), 0, print_with(record, book, WIDE, ("bob", "11"))),
                         stems_many(WHEN[2]))

    def test_random_copies(self):
        dice = random.Random(47)
        book, styles = (WHO, WHEN), (WIDE, PLAIN)
        for _ in range(40):
            record = record_of(random_text(dice))
            which = dice.randrange(2)
            stems = dice.choice(list(all_stems(book)))
            try:
                shown = print_with(record, book, styles[which], stems)
                told_by(record, book, styles, which, ())
            except (TooWide, TooTall):
                continue
            look = look_with(record, book, styles[which], stems)
            share = dice.random()
            cells = {(p, r, c) for p, page in enumerate(look) for r, row in enumerate(page) for c, sign in enumerate(row)
                     if dice.random() < (share if sign == "#" else 0.1)}
            self.assertGreater(self.check(record, book, styles, which, with_cells(shown, cells)), 0)
            for step in (("wide", 2), ("rows",), ("all",)):
                self.assertGreater(self.check(record, book, styles, which, draw(step, with_cells(shown, cells))), 0)

    def test_1000_and_1001_stems(self):
        digits = "0123456789"
        right = ("who", 1, ((digits,) * 3,), ("",))
        wrong = ("who", 1, ((digits,) * 3, ("a",)), ("",))
        record = record_of("@par{@hole{who} x}")
        copy = print_with(record, (right,), PLAIN, ("735",))
        self.assertEqual(told_by(record, (right,), (PLAIN,), 0, copy), (((0,), 1),))
        self.assertEqual(stems_told(record, (right,), (PLAIN,), 0, copy, 0), ("735",))
        covered = with_cells(copy, {(0, 2, 1)})
        self.assertEqual(told_by(record, (right,), (PLAIN,), 0, covered), (((0,), 10),))
        self.assertEqual(stems_told(record, (right,), (PLAIN,), 0, covered, 4), ("745",))
        for book in ((wrong,), (WHEN, wrong), (wrong, WHEN)):
            for call, given in ((told_by, ()), (stems_told, (0,))):
                with self.assertRaises(TooMany) as caught:
                    call(record_of("@par{x}"), book, (PLAIN,), 0, (), *given)
                self.assertEqual(caught.exception.part, "stems")

    def test_the_order_of_the_errors(self):
        letters = "abcdefghijklmnopqrstuvwxyz"
        shapes = tuple((12, 3, 1, tuple((sign, 2 + at // 3 ** place % 2) for at, sign in enumerate(letters) if at // 3 ** place % 3),
                        (), (), (0, 0, 0, 0, 0)) for place in range(4))
        many_shapes = ("who", 1, ((letters, letters, letters),), ("",))
        many_fillings = (("who", 1, tuple((sign,) * (at + 1) for at, sign in enumerate("abcdefgh")), ("",)),) + tuple(
            ("x" + sign, 1, tuple((sign,) * (at + 1) for at in range(8)), ("",)) for sign in "yz")
        many_stems = ("who", 1, (("0123456789",) * 4,), ("",))
        wide, tall = record_of("@par{aaaaaaaaaaaaa}"), record_of("@figure{6}{}")
        for record in (wide, tall):
            for book, styles, part in (((many_shapes,), shapes, "shapes"), (many_fillings, (PLAIN,), "fillings"),
                                       ((many_stems,), (PLAIN,), "stems"), (many_fillings + (("w", 1, many_stems[2], ("",)),),
                                                                            (PLAIN,), "fillings")):
                for call, given in ((told_by, ()), (stems_told, (0,))):
                    with self.assertRaises(TooMany) as caught:
                        call(record, book, styles, 0, (), *given)
                    self.assertEqual(caught.exception.part, part)
        for call, given in ((told_by, ()), (stems_told, (0,))):
            with self.assertRaises(TooWide):
                call(wide, (WHO,), (PLAIN,), 0, (), *given)
            with self.assertRaises(TooTall):
                call(tall, (WHO,), (PLAIN,), 0, (), *given)

    def test_the_first_filling_that_cannot_be_set(self):
        # The first filling is too tall, a later one too wide; and the other way round.
        style = (6, 3, 1, (), (), (), (0, 0, 0, 0, 0))
        book = (("who", 1, (("a",) * 2, ("a",) * 7), ("", "bbbbbb")),)
        for text, error in (("@par{@hole{who}} @figure{3}{}", TooTall), ("@par{@hole{who}{1}} @figure{3}{}", TooWide),
                            ("@par{@hole{who}}", TooWide)):
            record = record_of(text)
            with self.assertRaises(error):
                told_by(record, book, (style,), 0, ())
        self.assertEqual(first_stems(book, (style,), (0,)), ("aa",))


def random_text(dice):
    def pieces(kinds, most=6):
        return " ".join(dice.choice(kinds) for _ in range(dice.randrange(1, most)))

    words = ("a", "ab", "@hole{who}", "@hole{who}{1}", "@hole{when}{1}", "@hole{when}{2}", "@hole{when}")
    return " ".join(dice.choice(("@par{" + pieces(words, 9) + "}", "@head{" + pieces(words, 4) + "}", "@contents",
                                 "@par{" + pieces(words) + " @note{" + pieces(words, 3) + "}}",
                                 "@list{@item{" + pieces(words) + "}}", "@figure{1}{" + pieces(words, 3) + "}",
                                 "@show{@up{@hole{when}} @low{@hole{who}}}",
                                 "@table{@row{@cell{@hole{who}} @cell{a}} @row{@cell{2}{@hole{when}{1}}}}"))
                    for _ in range(dice.randrange(1, 6)))


if __name__ == "__main__":
    unittest.main()
