"""The pages of labels, headings and keys, and the numbers that are found with others [25], [26]."""

import unittest

from hushedpages.blocks import record_of
from hushedpages.books import filled
from hushedpages.columns import least_columns
from hushedpages.errors import TooTall, TooWide
from hushedpages.flows import flow_of, stack_of
from hushedpages.numbers import first_numbers, found_numbers
from hushedpages.pages import Pages

BOOK = (("who", 1, (("ab",), ("c", "d")), ("", "s")),)
# Three rows in a column, and one column on a page.
STYLE = (12, 3, 1, (), (), (), (0, 0, 0, 0, 0))
WORD = "aaaaaaaaaa "


def style_with(depth=3, columns=1, prices=(0, 0, 0, 0, 0)):
    return (12, depth, columns, (), (), (), prices)


def record(text):
    return filled(record_of(text), BOOK, ("cd",))


def pages_of(*labels):
    """A paragraph that names labels, so that their numbers are told."""
    return "@par{" + "".join(f"@page{{{label}}}" for label in labels) + "}"


class FirstNumbersTest(unittest.TestCase):
    def check(self, text, *numbers):
        self.assertEqual(first_numbers(record_of(text)), numbers, text)
        self.assertEqual(first_numbers(record(text)), numbers, text)

    def test_nothing(self):
        self.check("", (), (), ())
        self.check("@head{a} @par{@key{b}} @label{c} @par{d}", (), (), ())
        self.check("@contents @index", (), (), ())

    def test_labels(self):
        self.check("@label{a} @label{b} @par{@page{b} @page{b}}", (0,), (), ())
        self.check("@label{a} @label{b} @label{c} @par{@page{c} @note{@page{a}}}", (0, 0), (), ())
        self.check("@label{a} @table{@row{@cell{@page{a}}}}", (0,), (), ())

    def test_heads_and_keys(self):
        self.check("@contents @head{a} @head{@hole{who}} @contents", (), (0, 0), ())
        self.check("@index @par{@key{b} @key{a} @key{b}}", (), (), ((), ()))
        self.check("@head{a} @par{@key{b}} @index @contents @label{x} @par{@page{x}}", (0,), (0,), ((),))

    def test_labels_with_the_names_of_blocks(self):
        self.check("@head{a} @label{contents} @par{@key{b} @page{contents}} @label{index} @par{c}", (0,), (), ())


class FoundNumbersTest(unittest.TestCase):
    def check(self, text, *found, numbers=None, style=STYLE):
        told = record(text)
        given = first_numbers(told) if numbers is None else numbers
        self.assertEqual(found_numbers(told, style, given), found, text)
        self.assertEqual(first_numbers(told), first_numbers(record(text)))

    def test_nothing(self):
        self.check("", (), (), ())
        self.check("@contents @index", (), (), ())
        self.check("@par{a} @head{b} @par{@key{c}}", (), (), ())

    def test_labels_of_rows(self):
        text = "@label{a} @par{" + WORD * 3 + "} @label{b} @label{c} @par{b} @label{d} @list{@item{d}} " + pages_of("d", "c", "b", "a")
        self.check(text, (1, 2, 2, 2), (), ())
        self.check(text, (1, 1, 1, 1), (), (), style=style_with(columns=3))
        self.check(text, (1, 1, 1, 1), (), (), style=style_with(columns=2))

    def test_the_first_row_of_a_block(self):
        # The paragraph begins on page 1 and goes on on page 2.
        text = "@par{a} @label{x} @par{" + WORD * 4 + "}" + pages_of("x")
        self.check(text, (1,), (), ())
        self.check(text, (2,), (), (), style=style_with(prices=(0, 0, 20, 0, 0)))

    def test_labels_in_the_order_of_their_blocks(self):
        text = pages_of("b", "a") + "@label{b} @par{" + WORD * 3 + "} @label{zz} @par{c} @label{a} @par{" + WORD * 3 + "}"
        self.check(text, (1, 3), (), ())
        told = record(text)
        # A label that no page piece names has a page, but no number.
        self.assertEqual(Pages(told, STYLE, first_numbers(told)).label_page("zz"), 3)

    def test_labels_of_figures(self):
        text = "@label{a} @figure{1}{} @label{b} @figure{1}{} " + pages_of("a", "b")
        self.check(text, (1, 2), (), ())
        self.check(text, (1, 1), (), (), style=style_with(depth=5))
        self.check(text, (1, 1), (), (), style=style_with(columns=2))
        text = "@figure{2}{} @label{b} @figure{2}{} @label{c} @figure{1}{} @label{d} @figure{1}{}" + pages_of("b", "c", "d")
        self.check(text, (3, 4, 5), (), ())
        # A figure that waits: it does not fit behind the rows ahead of it.
        text = "@par{" + WORD * 2 + "} @label{a} @figure{2}{} @par{b}" + pages_of("a")
        self.check(text, (3,), (), ())
        # Both labels name the second figure.
        text = "@figure{2}{} @label{a} @label{b} @figure{2}{} " + pages_of("a", "b")
        self.check(text, (3, 3), (), ())

    def test_labels_of_blocks_without_rows(self):
        # The next row behind the place of the block, which comes from the last paragraph.
        text = pages_of("a", "b") + "@par{" + WORD * 3 + "} @label{a} @index @figure{1}{} @label{b} @contents @par{" + WORD + "}"
        self.check(text, (3, 3), (), ())
        text = "@label{a} @contents @label{b} @figure{2}{} @label{c} @index" + pages_of("a", "b", "c")
        self.check(text, (1, 2, 1), (), ())

    def test_labels_at_the_end(self):
        text = pages_of("a") + "@par{" + WORD * 4 + "} @label{a} @index"
        self.check(text, (2,), (), ())
        text = pages_of("a") + "@label{a} @contents @figure{2}{} @figure{2}{}"
        self.check(text, (3,), (), ())
        self.check(text, (1,), (), (), style=style_with(columns=3))
        self.check("@label{a} @contents @figure{1}{}", (), (), ())
        for text, page in (("@label{a} @contents", 0), ("@label{a} @contents @figure{1}{}", 1), ("@label{a} @index @par{b}", 1)):
            told = record(text)
            self.assertEqual(Pages(told, STYLE, first_numbers(told)).label_page("a"), page)

    def test_heads(self):
        text = "@contents @head{a} @par{" + WORD * 4 + "} @head{b} @par{c}"
        self.check(text, (), (2, 4), ())
        self.check(text, (), (1, 2), (), style=style_with(columns=2))
        self.check("@contents @par{a} @head{" + WORD * 3 + "} @par{b}", (), (1,), (), style=style_with(depth=12))

    def test_keys(self):
        text = ("@par{@key{b} @key{a} @key{b}} @list{@item{@key{b}} @item{" + WORD + "} @item{@key{a}} @item{@key{b}} @item{@key{c}}} "
                "@index")
        self.check(text, (), (), ((1, 2), (1, 2), (3,)))
        self.check(text, (), (), ((1,), (1,), (1,)), style=style_with(columns=3))
        self.check(text, (), (), ((1,), (1,), (2,)), style=style_with(columns=2))

    def test_other_words_that_are_the_same_as_a_key(self):
        text = "@head{a} @par{a " + WORD * 3 + " @note{a}} @list{@item{@key{a}} @item{a} @item{b}} @par{a} @index"
        self.check(text, (), (), ((4,),))

    def test_the_price_late(self):
        # Either the first page is full without the figure, or the figure stands there and the table is split.
        text = "@label{a} @figure{1}{} @table{" + "@row{@cell{b}}" * 4 + "} @par{@page{a}}"
        for late, page in ((0, 2), (8, 2), (9, 1), (999, 1)):
            self.check(text, (page,), (), (), style=style_with(depth=4, prices=(7, 7, 7, 9, late)))

    def test_a_key_that_is_parted_begins_with_its_first_piece(self):
        style = style_with()[:5] + ((("b", "c", 0),),) + STYLE[6:]
        text = "@index @par{aa aaaa bbbbbbb} @par{@key{xxxxxbcxxxxxxx}}"
        told = record(text)
        numbers = ((), (), ((),))
        flow = flow_of(told, style, numbers)
        self.assertEqual([entry and entry[0][0].rstrip() for entry in flow[0]],
                         ["xxxxxb-", "cxxxxxxx", None, "aa      aaaa", "bbbbbbb", None, "xxxxxb-", "cxxxxxxx"])
        self.assertEqual(least_columns(3, 0, stack_of(flow)), ((0, 0), (3, 0), (6, 0), (8, 0)))
        self.check(text, (), (), ((3,),), style=style)
        # Its first piece stands in the last row of a page.
        text = "@index @par{" + WORD * 2 + " aaaa @key{xxxxxbcxxxxxxx}}"
        self.check(text, (), (), ((2,),), style=style)
        text = "@par{" + WORD * 2 + " aaaa @key{xxxxxbcxxxxxxx}} @index"
        flow = flow_of(record(text), style, numbers)
        self.assertEqual(flow[0][2][0][0], "aaaa xxxxxb-")
        self.check(text, (), (), ((1,),), style=style)

    def test_keys_in_a_row_behind_a_parted_word(self):
        style = style_with()[:5] + ((("b", "c", 0),),) + STYLE[6:]
        text = "@par{" + WORD * 2 + " aaaa xxxxxbcxxxxx @key{y}} @index"
        self.check(text, (), (), ((2,),), style=style)

    def test_none_stays_none(self):
        text = "@label{a} @label{b} @contents @index @head{c} @par{@key{d} @key{e} @page{a} @page{b}} @head{f}"
        self.check(text, (1, 1), (3, 4), ((3,), (3,)), numbers=((0, 0), (0, 0), ((), ())))
        self.check(text, (None, 1), (3, None), ((3,), None), numbers=((None, 0), (0, None), ((), None)))
        self.check(text, (None, None), (None, None), (None, None), numbers=((None, None), (None, None), (None, None)))

    def test_numbers_that_are_set_move_others(self):
        # With a number of two digits the paragraph has one row more, and what is behind it is on the next page.
        text = "@par{aaaaaaaaaa @page{x}} @label{x} @par{c}"
        for number, found in ((0, 1), (9, 1), (10, 2), (None, None)):
            self.check(text, (found,), (), (), numbers=((number,), (), ()))

    def test_columns_and_pages(self):
        text = "@list{" + f"@item{{{WORD}}}" * 3 * 5 + "} @label{x} @par{y} " + pages_of("x")
        for columns, page in ((1, 6), (2, 3), (3, 2)):
            self.check(text, (page,), (), (), style=style_with(columns=columns))

    def test_wrong_layouts(self):
        wide, tall = "@par{" + "a" * 13 + "}", "@show{@over{@over{a}{b}}{c}}"
        for text, error in ((wide, TooWide), (tall, TooTall), (tall + wide, TooWide), (wide + tall, TooWide),
                            (tall + "@par{a @note{" + "a" * 13 + "}}", TooWide), ("@figure{3}{}", TooTall),
                            ("@par{a @note{" + WORD * 2 + "}}", TooTall), ("@head{" + WORD * 3 + "} @par{a}", TooTall)):
            told = record(text)
            with self.assertRaises(error, msg=text):
                found_numbers(told, STYLE, first_numbers(told))

    def test_the_first_wrong_part(self):
        table, formula, word = "@table{@row{@cell{aaaaaaa aaaaaaa}}}", "@show{aaaaaaa aaaaaaa}", "@par{aaaaaaaaaaaaa}"
        tall = "@figure{5}{}"
        for first, part in ((table, "table"), (formula, "formula"), (word, "word")):
            told = record(tall + first + table + formula + word)
            with self.assertRaises(TooWide) as caught:
                found_numbers(told, STYLE, first_numbers(told))
            self.assertEqual(caught.exception.part, part)

    def test_a_record_of_many_blocks(self):
        text = "@contents @index " + "@head{aa} @par{@key{bb} @note{cc} @key{dd}} @figure{2}{e} " * 12
        told = record(text)
        style = style_with(depth=12, columns=2, prices=(1, 2, 3, 4, 5))
        numbers = first_numbers(told)
        for _ in range(3):
            found = found_numbers(told, style, numbers)
            self.assertEqual(found[1], tuple(sorted(found[1])))
            self.assertEqual(list(found[2][0]), sorted(set(found[2][0])))
            numbers = found


if __name__ == "__main__":
    unittest.main()
