"""Sheets, their print and their look [27]."""

import random
import unittest

from hushedpages.blocks import record_of
from hushedpages.books import filled
from hushedpages.columns import least_columns
from hushedpages.errors import TooTall, TooWide
from hushedpages.flows import flow_of, stack_of
from hushedpages.shapes import signs_of
from hushedpages.sheets import look_of, print_of, settled
from model import entries_ahead

PLAIN = (12, 3, 1, (), (), (), (0, 0, 0, 0, 0))
BOOK = (("who", 1, (("a", "n"), ("b", "o", "b")), ("", "s")),)


def style_with(measure=12, depth=3, columns=1, widths=(), cuts=(), breaks=(), prices=(0, 0, 0, 0, 0)):
    return measure, depth, columns, tuple(widths), tuple(cuts), tuple(breaks), prices


def drawn_by_cells(record, style, numbers):
    """The sheets of a record, cell by cell, from what is told of its flow and its columns."""
    measure, depth, many = style[:3]
    width = many * measure + 2 * (many - 1)
    flow = flow_of(record, style, numbers)
    entries, _, figures, notes = flow
    states = least_columns(depth, style[6][4], stack_of(flow))
    pages = []
    page_of = {}
    for number, ((i, p), (j, q)) in enumerate(zip(states, states[1:])):
        if number % many == 0:
            pages.append([[[" ", " "] for _ in range(width)] for _ in range(depth + 2)])
        left = number % many * (measure + 2)
        rows = [strip for _, strips in figures[p:q] for strip in strips]
        foot = []
        for at in range(i, j):
            page_of[at] = len(pages)
            if entries[at] is None:
                # A gap directly ahead of the next column is not held, and nothing stands behind it.
                rows.append((" " * measure, " " * measure))
            else:
                rows.append(entries[at][0])
                foot += [strip for note in entries[at][1] for strip in notes[note - 1]]
        if foot:
            foot = [("~" * measure, " " * measure)] + foot
        for at, strip in enumerate(rows):
            put(pages[-1], 2 + at, left, strip)
        for at, strip in enumerate(foot):
            put(pages[-1], 2 + depth - len(foot) + at, left, strip)
    for number, page in enumerate(pages, start=1):
        draw_head(page, number, width, style, words_on(record, style, numbers, number, page_of))
    return tuple(tuple(tuple("".join(cell[part] for cell in row) for part in (0, 1)) for row in page) for page in pages)


def put(page, row, left, strip):
    for at, (sign, cover) in enumerate(zip(*strip)):
        if sign != " ":
            assert page[row][left + at] == [" ", " "]
            page[row][left + at] = [sign, cover]


def words_on(record, style, numbers, number, page_of):
    """The words of the heading that the head strip of a page tells, each with its cover."""
    told = []
    for at, block in enumerate(record):
        if block[0] == "head":
            first = entries_ahead(record, style, numbers, at)
            if page_of[first] <= number:
                told = [(word[1], "#" if word[0] == "hid" else " ") for word in block[1]]
    return told


def draw_head(page, number, width, style, words):
    signs = signs_of(style, str(number), 0, len(str(number)))
    if len(signs) > width:
        signs = ""
    room = width - len(signs) - (1 if signs else 0)
    put(page, 0, width - len(signs), (signs, " " * len(signs)))
    left = 0
    for word, cover in words:
        piece = signs_of(style, word, 0, len(word))
        start = left + (1 if left else 0)
        if start + len(piece) > room:
            return
        put(page, 0, start, (piece, cover * len(piece)))
        left = start + len(piece)


class SheetsTest(unittest.TestCase):
    def record(self, text, stem="bob"):
        return filled(record_of(text), BOOK, (stem,))

    def look(self, text, style, stem="bob"):
        return [[row.rstrip() for row in page] for page in look_of(settled(self.record(text, stem), style)[0])]

    def print(self, text, style, stem="bob"):
        return [[row.rstrip() for row in page] for page in print_of(settled(self.record(text, stem), style)[0])]

    def heads(self, text, style, stem="bob"):
        return [page[0] for page in self.print(text, style, stem)]

    def test_the_sheets_of_a_small_record(self):
        sheets = settled(self.record("@par{@hole{who} x}"), PLAIN)[0]
        blank = " " * 12
        self.assertEqual(sheets, (((blank[:-1] + "1", blank), (blank, blank), ("bob x       ", "###         "), (blank, blank),
                                   (blank, blank)),))
        self.assertEqual(print_of(sheets), ((blank[:-1] + "1", blank, "bob x       ", blank, blank),))
        self.assertEqual(look_of(sheets), ((blank[:-1] + "1", blank, "### x       ", blank, blank),))

    def test_a_record_without_pages(self):
        for sheets in (settled((), PLAIN)[0], settled(record_of("@contents"), PLAIN)[0]):
            self.assertEqual((sheets, print_of(sheets), look_of(sheets)), ((), (), ()))

    def test_pages_of_one_column(self):
        self.assertEqual(self.print("@par{a}" * 3, PLAIN), [["           1", "", "a", "", "a"], ["           2", "", "a", "", ""]])

    def test_pages_of_two_and_three_columns(self):
        style = style_with(6, 3, 2)
        self.assertEqual(self.print("@par{a}" * 5, style), [["             1", "", "a       a", "", "a       a"],
                                                            ["             2", "", "a", "", ""]])
        style = style_with(6, 3, 3)
        self.assertEqual(self.print("@par{a} @par{b} @par{c} @par{d} @par{e} @par{f} @par{g}", style),
                         [["                     1", "", "a       c       e", "", "b       d       f"],
                          ["                     2", "", "g", "", ""]])
        for columns in (1, 2, 3):
            sheets = settled(self.record("@par{a}" * 5), style_with(7, 4, columns))[0]
            self.assertEqual({len(page) for page in sheets}, {6})
            self.assertEqual({len(part) for page in sheets for strip in page for part in strip}, {9 * columns - 2})

    def test_a_gap_at_the_end_of_a_column_is_left_out(self):
        self.assertEqual(self.print("@par{aaaaaaaaa bbbbbbbbb} @par{c}", PLAIN)[0], ["           1", "", "aaaaaaaaa", "bbbbbbbbb", ""])
        # Within a column it is a blank row.
        self.assertEqual(self.print("@par{a} @par{b}", PLAIN)[0], ["           1", "", "a", "", "b"])

    def test_figures_stand_above_the_entries(self):
        style = style_with(8, 9)
        self.assertEqual(self.print("@par{a} @figure{1}{b @hole{who}} @figure{2}{} @par{c}", style),
                         [["       1", "", "|" * 8, "b bob", "|" * 8, "|" * 8, "|" * 8, "|" * 8, "a", "", "c"]])
        self.assertEqual(self.look("@figure{1}{b @hole{who}} @par{c}", style)[0][2:6], ["|" * 8, "b ###", "|" * 8, "c"])

    def test_feet_and_their_notes(self):
        text = "@par{a @note{b @hole{who}} c @note{dddd eeee ffff} g} @par{h}"
        self.assertEqual(self.print(text, style_with(8, 9)), [["       1", "", "a  *1  c", "*2 g", "", "h", "~" * 8, "*1 b bob",
                                                              "*2  dddd", "eeee", "ffff"]])
        self.assertEqual(self.look(text, style_with(8, 9))[0][7], "*1 b ###")
        # The notes stand at the end of their column, with blank rows ahead of them.
        self.assertEqual(self.print("@par{a @note{b}}", style_with(8, 6))[0], ["       1", "", "a *1", "", "", "", "~" * 8, "*1 b"])
        self.assertEqual(self.print("@par{a @note{b}} @par{c @note{d}}" * 2, style_with(8, 7, 2)),
                         [["                 1", "", "a *1      a *3", "", "c *2      c *4", "", "~" * 8 + "  " + "~" * 8,
                           "*1 b      *3 b", "*2 d      *4 d"]])

    def test_a_number_that_leaves_no_room_for_words(self):
        style = style_with(6, 3, widths=(("0", 3), ("1", 3)))
        heads = self.heads("@head{a bb} @par{a}" * 11, style)
        self.assertEqual(heads[8:], ["a bb 9", "1__0__", "1__1__"])

    def test_a_number_that_is_wider_than_the_page(self):
        style = style_with(6, 3, widths=(("0", 3), ("1", 3), ("2", 2)))
        heads = self.heads("@head{aaaa b} @list{" + "@item{c}" * 296 + "}", style)
        self.assertEqual((heads[8], heads[9], heads[21], heads[98:]), ("aaaa 9", "1__0__", "  2_2_", ["    99", "aaaa b"]))

    def test_words_that_do_not_all_fit(self):
        for words, head in (("aaaa bbbbb", "aaaa bbbbb 1"), ("aaaa bbbbbb", "aaaa       1"), ("aaaaaaaaaa", "aaaaaaaaaa 1"),
                            ("aaaaaaaaaaa", "           1"), ("aaaaaaaaaaa b", "           1"), ("a bbbbbbbbbbb c", "a          1"),
                            ("a b c d e f", "a b c d e  1")):
            self.assertEqual(self.heads("@head{" + words + "} @par{x}", style_with(12, 5)), [head])
        # On a page of two columns there is more room.
        self.assertEqual(self.heads("@head{aaaa bbbbbb cccccc ddddd} @par{x}", style_with(12, 5, 2)),
                         ["aaaa bbbbbb cccccc ddddd 1"])
        self.assertEqual(self.heads("@head{aaaa bbbbbb cccccc dddddd} @par{x}", style_with(12, 5, 2)),
                         ["aaaa bbbbbb cccccc       1"])

    def test_wide_signs_in_the_head_strip(self):
        style = style_with(12, 5, widths=(("1", 2), ("m", 3)), cuts=(("m", "a", 1),))
        self.assertEqual(self.heads("@head{ma bbbbb c} @par{x}", style), ["m_a bbbbb 1_"])
        self.assertEqual(self.heads("@head{ma bbbbbb c} @par{x}", style), ["m_a       1_"])

    def test_a_head_strip_without_a_heading(self):
        self.assertEqual(self.heads("@par{a} @par{b} @par{c} @head{d} @par{e}", PLAIN), ["           1", "           2", "d          3"])

    def test_two_headings_on_one_page(self):
        self.assertEqual(self.heads("@head{a} @par{x} @head{b} @par{y} @par{z}", style_with(12, 7)), ["b          1", "b          2"])
        # Also if the second one stands in the second column.
        self.assertEqual(self.heads("@head{a} @par{x} @head{b} @par{y}", style_with(8, 3, 2)), ["b                1"])

    def test_a_heading_of_an_earlier_page(self):
        self.assertEqual(self.heads("@par{x} @par{x} @head{a} @par{b} @par{c} @par{c} @head{d} @par{e}", PLAIN),
                         ["           1", "a          2", "a          3", "d          4"])
        # A heading at the end, and one of several rows.
        self.assertEqual(self.heads("@par{x} @head{a b}", PLAIN), ["a b        1"])
        self.assertEqual(self.heads("@par{x} @par{y} @head{aaaaaaaa bbbbbbbb cccccccc}", PLAIN), ["           1", "aaaaaaaa   2"])

    def test_struck_words_are_covered_everywhere(self):
        style = style_with(14, 12)
        text = ("@contents @head{a @hole{who}} @par{b @hole{who}{1} @note{@hole{who}}} @list{@item{@hole{who}}} "
                "@table{@row{@cell{@hole{who}} @cell{c}}} @show{@up{@hole{who}}} @figure{1}{@hole{who} d}")
        for stem in ("bob", "an"):
            looks = "".join("".join(row) for page in self.look(text, style, stem) for row in page)
            self.assertNotIn(stem, looks)
            prints = "".join("".join(row) for page in self.print(text, style, stem) for row in page)
            self.assertEqual(prints.count(stem), 8 + len(self.heads(text, style, stem)))
        self.assertEqual(self.look(text, style)[0][0], "a ###        1")

    def test_a_hyphen_is_covered_too(self):
        style = style_with(8, 5, breaks=(("b", "c", 0),))
        record = filled(record_of("@par{xxx @hole{who}}"), BOOK, ("aaabcc",))
        sheets = settled(record, style)[0]
        self.assertEqual([strip for strip in sheets[0][2:4]], [("xxx     ", " " * 8), ("aaabcc  ", "######  ")])
        record = filled(record_of("@par{xxx @hole{who} xxxxx}"), BOOK, ("aabccc",))
        sheets = settled(record, style)[0]
        self.assertEqual(sheets[0][2], ("xxx aab-", "    ####"))
        self.assertEqual(look_of(sheets)[0][2:4], ("xxx ####", "###     "))

    def test_print_and_look_of_sheets_that_are_given(self):
        sheets = ((("ab c", "# # "), ("", "")), (("    ", "#   "), ("~|-+", "    ")))
        self.assertEqual(print_of(sheets), (("ab c", ""), ("    ", "~|-+")))
        self.assertEqual(look_of(sheets), (("#b#c", ""), ("#   ", "~|-+")))

    def test_sheets_are_set_with_the_numbers_at_rest(self):
        self.assertEqual(self.print("@par{@page{x}} @par{a} @par{b} @label{x} @par{c}", PLAIN)[0][2], "2")
        style = style_with(8, 3, widths=(("1", 3), ("?", 3)))
        self.assertEqual(self.print("@par{@page{x} @page{x} @page{x}} @label{x} @par{aa}", style)[0][2:4], ["?__?__", "?__?__"])

    def test_random_records_by_cells(self):
        dice = random.Random(27)
        many = 0
        for _ in range(300):
            record = self.record(random_text(dice), dice.choice(("bob", "an")))
            widths = sorted((sign, dice.choice((2, 3))) for sign in "12ab" if dice.random() < 0.3)
            style = style_with(dice.randrange(6, 16), dice.randrange(3, 12), dice.randrange(1, 4), widths,
                               breaks=(("a", "b", 1), ("b", "a", 3)), prices=tuple(dice.choice((0, 5)) for _ in range(5)))
            try:
                sheets, numbers, _ = settled(record, style)
            except (TooWide, TooTall):
                continue
            many += 1
            self.assertEqual(sheets, drawn_by_cells(record, style, numbers))
        self.assertGreater(many, 150)


def random_text(dice):
    def pieces(kinds, most):
        return " ".join(dice.choice(kinds) for _ in range(dice.randrange(1, most)))

    words = ("a", "ab", "abab", "@hole{who}", "@hole{who}{1}", "ccc")
    prose = words + ("@page{x}", "@key{b}", "@note{" + pieces(words + ("@page{x}",), 4) + "}")
    blocks = []
    for _ in range(dice.randrange(1, 8)):
        blocks.append(dice.choice((
            "@par{" + pieces(prose, 9) + "}", "@par{" + pieces(prose, 9) + "}", "@head{" + pieces(words, 5) + "}", "@contents",
            "@list{@item{" + pieces(prose, 5) + "} @item{" + pieces(prose, 5) + "}}", "@index",
            "@table{@row{@cell{a} @cell{@hole{who}}} @row{@cell{2}{ab}}}", "@show{a @up{@hole{who}}}",
            "@figure{1}{" + pieces(words, 4) + "}", "@figure{2}{}")))
    blocks.insert(dice.randrange(len(blocks) + 1), "@label{x} @par{c}")
    return " ".join(blocks)


if __name__ == "__main__":
    unittest.main()
