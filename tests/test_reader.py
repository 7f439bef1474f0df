"""Pages of a style are read back [30]."""

import random
import unittest

from hushedpages.blocks import record_of
from hushedpages.books import filled
from hushedpages.errors import TooTall, TooWide
from hushedpages.reader import read_back
from hushedpages.sheets import print_of, settled

BOOK = (("who", 1, (("a", "n"), ("b", "o", "b")), ("", "s")),)


def style_with(measure=12, depth=3, columns=1, widths=(), breaks=(), cuts=()):
    return measure, depth, columns, tuple(widths), tuple(cuts), tuple(breaks), (0, 0, 0, 0, 0)


def page_of(style, *columns):
    """A page with these columns of rows, each row as long as it is told, and rows in the head that are no words."""
    measure, depth, many = style[:3]
    rows = ["xx".ljust(many * (measure + 2) - 2), "yy".ljust(many * (measure + 2) - 2)]
    for at in range(depth):
        rows.append("  ".join((column[at] if at < len(column) else "").ljust(measure)
                              for column in columns + ((),) * (many - len(columns))))
    return tuple(rows)


def words_of(record):
    """The words of the text, of the notes and of the captions of a record without contents, index and formulas."""
    text, notes, captions = [], [], []

    def take(pieces, words):
        for piece in pieces:
            if piece[0] == "note":
                notes.append([piece[1]])
                words.append("*" + str(len(notes)))
            else:
                words.append(piece[1])

    for block in record:
        if block[0] in ("head", "par"):
            take(block[1], text)
        elif block[0] == "list":
            for item in block[1]:
                text.append("+")
                take(item, text)
        elif block[0] == "table":
            for row in block[1]:
                for _, pieces in row:
                    take(pieces, text)
        elif block[0] == "figure":
            take(block[2], captions)
    told = []
    for number, (pieces,) in enumerate(notes, start=1):
        told.append("*" + str(number))
        take(pieces, told)
    return tuple(text), tuple(told), tuple(captions)


class ReaderTest(unittest.TestCase):
    def check(self, style, pages, text=(), notes=(), captions=()):
        self.assertEqual(read_back(style, tuple(pages)), (tuple(text), tuple(notes), tuple(captions)))

    def test_no_pages(self):
        self.check(style_with(), ())

    def test_the_head_row_and_the_row_below_it_are_left_out(self):
        style = style_with(6, 3, 2)
        self.check(style, [page_of(style)])
        self.check(style, [page_of(style, ("a",), ("b",))] * 2, "abab")

    def test_columns_from_left_to_right(self):
        style = style_with(6, 3, 3)
        self.check(style, [page_of(style, ("a b", "", "  c"), ("d",), ("e", "f")), page_of(style, ("g",))], "abcdefg")

    def test_between_two_columns_nothing_is_read(self):
        style = style_with(6, 3, 2)
        page = tuple(row[:6] + "zz" + row[8:] for row in page_of(style, ("a", "bbbbbb"), ("c", "dddddd")))
        self.check(style, [page], ("a", "bbbbbb", "c", "dddddd"))

    def test_parts_that_are_joined_over_a_row(self):
        style = style_with(8, 5)
        self.check(style, [page_of(style, ("a bc-", "de f"))], ("a", "bcde", "f"))
        self.check(style, [page_of(style, ("a bc-", "", " ", "  de f"))], ("a", "bcde", "f"))
        # Only the last part of a row, and only one sign.
        self.check(style, [page_of(style, ("a- bc", "de f"))], ("a-", "bc", "de", "f"))
        self.check(style, [page_of(style, ("a bc--", "de f"))], ("a", "bc-de", "f"))
        self.check(style, [page_of(style, ("a -bc", "de f"))], ("a", "-bc", "de", "f"))

    def test_parts_that_are_joined_over_a_column_and_a_page(self):
        style = style_with(8, 3, 2)
        self.check(style, [page_of(style, ("a", "", "bc-"), ("de", "", "f-"))] * 2, ("a", "bcde", "fa", "bcde", "f"))

    def test_parts_that_are_joined_several_times(self):
        style = style_with(8, 5)
        self.check(style, [page_of(style, ("ab-", "cd-", "ef-", "gh i"))], ("abcdefgh", "i"))
        self.check(style, [page_of(style, ("ab-", "-", "ef-", "gh i"))], ("abefgh", "i"))
        # A joined part that is not the last one of its row is a word, whatever it ends with.
        self.check(style, [page_of(style, ("ab-", "cd- e", "f"))], ("abcd-", "e", "f"))
        self.check(style, [page_of(style, ("ab-", "c d-", "e"))], ("abc", "de"))
        self.check(style, [page_of(style, ("-", "-", "-", "a"))], ("a",))

    def test_a_last_part_with_nothing_behind_it(self):
        style = style_with(8, 4)
        self.check(style, [page_of(style, ("a bc-",))], ("a", "bc"))
        self.check(style, [page_of(style, ("a -",))], ("a", ""))
        self.check(style, [page_of(style, ("-", "-"))], ("",))
        self.check(style, [page_of(style, ("ab-", "cd-"))], ("abcd",))
        self.check(style, [page_of(style, ("-", "~" * 8, "-"))], ("",), ("",))
        self.check(style, [page_of(style, ("|" * 8, "a-", "|" * 8, "-"))], ("",), (), ("a",))

    def test_fillers_are_left_out(self):
        style = style_with(8, 5)
        self.check(style, [page_of(style, ("a_b __ c", "m__", "_d-", "_ e_"))], ("ab", "c", "m", "de"))
        self.check(style, [page_of(style, ("_", "___ __"))])
        # A part of fillers alone is none, also between two that are joined.
        self.check(style, [page_of(style, ("a-", "_", "__ b"))], ("ab",))
        self.check(style, [page_of(style, ("a- _", "b"))], ("ab",))
        self.check(style, [page_of(style, ("a-_", "b"))], ("ab",))

    def test_figures_and_captions(self):
        style = style_with(6, 7)
        bar = "|" * 6
        self.check(style, [page_of(style, (bar, bar, "a"))], "a")
        self.check(style, [page_of(style, (bar, "b c", "d", bar, "a"))], "a", (), "bcd")
        self.check(style, [page_of(style, (bar, "b", bar, bar, bar, "c", bar))], (), (), "bc")
        # All rows up to the last bar belong to figures.
        self.check(style, [page_of(style, ("a", bar, "b", "", bar, "c"))], "c", (), "ab")
        self.check(style, [page_of(style, ("|" * 5, "|||||a", "a"))], ("|||||", "|||||a", "a"))

    def test_captions_of_several_columns(self):
        style = style_with(6, 4, 2)
        bar = "|" * 6
        self.check(style, [page_of(style, (bar, "a-", bar, "x"), ("y",)), page_of(style, (bar, "b", bar, "z"))], "xyz", (), ("ab",))

    def test_notes(self):
        style = style_with(6, 7)
        foot = "~" * 6
        self.check(style, [page_of(style, ("a", "", foot, "b", "c"))], "a", "bc")
        # Only the first row of the sign is left out, and only rows of this sign alone count.
        self.check(style, [page_of(style, ("a", foot, "b", foot, "c"))], "a", ("b", foot, "c"))
        self.check(style, [page_of(style, ("~~~~~", "~~~~~a", foot, "b"))], ("~~~~~", "~~~~~a"), "b")
        self.check(style, [page_of(style, (foot,))])

    def test_a_row_of_that_sign_among_figures(self):
        style = style_with(6, 5)
        self.check(style, [page_of(style, ("~" * 6, "|" * 6, "a", "~" * 6, "b"))], "a", "b", ("~" * 6,))

    def test_notes_of_several_columns(self):
        style = style_with(6, 4, 3)
        foot = "~" * 6
        pages = [page_of(style, ("a", foot, "b", "c-"), ("d",), ("e", "", foot, "f")), page_of(style, (foot, "g"), ("h", foot, "i"))]
        self.check(style, pages, "adeh", ("b", "cf", "g", "i"))

    def test_parts_are_joined_within_their_stream_only(self):
        style = style_with(6, 4)
        self.check(style, [page_of(style, ("a-", "~" * 6, "b-")), page_of(style, ("c", "~" * 6, "d"))], ("ac",), ("bd",))

    def test_what_is_printed_is_read_back(self):
        book_style = style_with(12, 12, 2, (("m", 2), ("1", 3)), (("b", "c", 0), ("o", "b", 5)))
        text = ("@head{one @hole{who}} @par{two @hole{who}{1} m.m @note{three bcbcbc abcabc @page{x}} four} @label{x} "
                "@list{@item{five abcabcabc six} @item{seven @note{eight}}} @table{@row{@cell{nine @hole{who}} @cell{ten}} "
                "@row{@cell{2}{eleven}}} @figure{2}{twelve abcabc abcabc} @figure{1}{} @par{end}")
        for stem in ("an", "bob"):
            record = filled(record_of(text.replace("@page{x}", "z")), BOOK, (stem,))
            self.assertEqual(read_back(book_style, print_of(settled(record, book_style)[0])), words_of(record))

    def test_random_records_are_read_back(self):
        dice = random.Random(30)
        many = 0
        for _ in range(250):
            record = filled(record_of(random_text(dice)), BOOK, (dice.choice(("an", "bob")),))
            widths = sorted((sign, dice.choice((2, 3))) for sign in "1abm+*" if dice.random() < 0.3)
            cuts = [(a, b, 1) for a, _ in widths for b in "abm" if dice.random() < 0.4]
            breaks = [(a, b, 0) for a in "abmo" for b in "abmo" if dice.random() < 0.5]
            style = style_with(dice.randrange(8, 20), dice.randrange(5, 14), dice.randrange(1, 4), widths, breaks, cuts)
            try:
                sheets = settled(record, style)[0]
            except (TooWide, TooTall):
                continue
            many += 1
            self.assertEqual(read_back(style, print_of(sheets)), words_of(record))
        self.assertGreater(many, 100)


def random_text(dice):
    def pieces(kinds, most=7):
        return " ".join(dice.choice(kinds) for _ in range(dice.randrange(1, most)))

    words = ("a", "ababab", "mamba", "@hole{who}", "@hole{who}{1}", "b.a", "1")
    prose = words + ("@key{mob}", "@note{" + pieces(words, 4) + "}", "@note{" + pieces(words) + "}")
    return " ".join(dice.choice((
        "@par{" + pieces(prose, 12) + "}", "@head{" + pieces(words, 4) + "}", "@figure{1}{" + pieces(words, 5) + "}",
        "@list{@item{" + pieces(prose) + "} @item{" + pieces(prose) + "}}", "@figure{2}{}",
        "@table{@row{@cell{a 1} @cell{}} @row{@cell{2}{@hole{who} b}}}")) for _ in range(dice.randrange(1, 8)))


if __name__ == "__main__":
    unittest.main()
