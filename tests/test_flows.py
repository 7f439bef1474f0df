"""Flows: the rows of blocks, notes, figures, and stacks [22], [24]."""

import unittest

from hushedpages.blocks import record_of
from hushedpages.books import filled
from hushedpages.errors import TooWide
from hushedpages.flows import flow_of, stack_of
from hushedpages.numbers import first_numbers

STYLE = (12, 3, 1, (("m", 2), ("w", 3)), (), (("b", "b", 0),), (0, 30, 200, 7, 0))
BOOK = (("who", 1, (("ab",), ("c", "d")), ("", "s")),)
FRAME = "|" * 12


def record(text):
    """The filled record of a text; the only secret has the stem cd."""
    return filled(record_of(text), BOOK, ("cd",))


class FlowsTest(unittest.TestCase):
    def flow(self, text, numbers=None, style=STYLE):
        told = record(text)
        return flow_of(told, style, first_numbers(told) if numbers is None else numbers)

    def check(self, text, *rows, numbers=None, style=STYLE):
        """The rows of a flow: strings for rows without notes, None for gaps, else pairs of a row and its notes."""
        flow = self.flow(text, numbers, style)
        told = []
        for entry in flow[0]:
            if entry is None:
                told.append(None)
            else:
                (signs, cover), notes = entry
                self.assertEqual((len(signs), len(cover)), (style[0], style[0]))
                told.append((signs.rstrip(), notes) if notes else signs.rstrip())
        self.assertEqual(told, list(rows), text)
        self.assertEqual(len(flow[1]), len(told))
        return flow

    def covers(self, flow):
        return [entry and entry[0][1].rstrip() for entry in flow[0]]

    def test_records_without_rows(self):
        self.assertEqual(self.flow(""), ((), (), (), ()))
        self.assertEqual(self.flow("@contents @index @contents"), ((), (), (), ()))
        self.assertEqual(self.flow("@label{a} @contents"), ((), (), (), ()))
        frame = (FRAME, " " * 12)
        self.assertEqual(self.flow("@label{a} @figure{1}{}"), ((), (), ((0, (frame, frame)),), ()))

    def test_headings_are_ragged_and_paragraphs_are_not(self):
        self.check("@head{aa bb cc dddddddd e}", "aa bb cc", "dddddddd e")
        self.check("@par{aa bb cc dddddddd e}", "aa   bb   cc", "dddddddd e")

    def test_struck_words(self):
        flow = self.check("@head{a @hole{who}} @par{@hole{who}{1} a @key{b}}", "a cd", None, "cds a b")
        self.assertEqual(self.covers(flow), ["  ##", None, "###"])

    def test_what_is_not_struck(self):
        # Numbers of pages, marks, and the words of the contents and the index are no struck words.
        text = "@label{x} @par{@hole{who} @page{x} @note{@hole{who} @page{x}} @key{b}} @contents @index @head{c}"
        flow = self.check(text, ("cd 4 *1 b", (1,)), None, "c 5", None, "b 6, 7", None, "c", numbers=((4,), (5,), ((6, 7),)))
        self.assertEqual(self.covers(flow), ["##", None, "", None, "", None, ""])
        self.assertEqual([cover for _, cover in flow[3][0]], ["   ##      " + " "])

    def test_lists(self):
        self.check("@list{@item{a}}", "+ a")
        self.check("@list{@item{a b} @item{c}}", "+ a b", "+ c")
        self.check("@list{@item{aaa bbb ccccc ddd} @item{c}}", "+ aaa    bbb", "  ccccc ddd", "+ c")
        self.check("@list{@item{aaaaaaaaaa}}", "+ aaaaaaaaaa")
        flow = self.check("@list{@item{aaaaa @hole{who} ccccccc @hole{who}}}", "+ aaaaa   cd", "  ccccccc cd")
        self.assertEqual(self.covers(flow), ["          ##", "          ##"])

    def test_the_sign_of_an_item_is_one_unit_wide(self):
        style = STYLE[:3] + ((("+", 3),), (), ()) + STYLE[6:]
        self.check("@list{@item{+ a}}", "+ +__ a", style=style)

    def test_tables_and_formulas(self):
        flow = self.check("@table{@row{@cell{a}@cell{@hole{who}}} @row{@cell{2}{bbb c}}} @show{@over{@hole{who}}{abc}}",
                          "a cd", "bbb c", None, "    cd", "    ---", "    abc")
        self.assertEqual(self.covers(flow), ["  ##", "", None, "    ##", "", ""])
        self.check("@label{x} @table{@row{@cell{@page{x}}@cell{m}}}", "7 m_", numbers=((7,), (), ()))

    def test_gaps_between_blocks(self):
        self.check("@par{a} @label{x} @figure{1}{} @contents @index @par{b} @figure{2}{c} @head{d}", "a", None,
                   "d 0", None, "b", None, "d")
        self.check("@label{x} @figure{1}{} @index @par{a} @figure{1}{} @index @index", "a")
        self.check("@par{a} @contents @label{a} @index", "a")

    def test_pages(self):
        text = "@label{x} @label{y} @label{z} @par{@page{z} to @page{x} a}"
        self.check(text, "0 to 0 a")
        self.check(text, "2 to 1 a", numbers=((1, 2), (), ()))
        self.check(text, "?? to ?? a", numbers=((None, None), (), ()))
        self.check(text, "10203 to  40", "a", numbers=((40, 10203), (), ()))
        style = STYLE[:3] + ((("1", 2), ("?", 2)), (), ()) + STYLE[6:]
        self.check(text, "1_1_ to 2 a", numbers=((2, 11), (), ()), style=style)
        style = STYLE[:3] + ((("?", 3),), (), ()) + STYLE[6:]
        self.check(text, "?__?__ to  3", "a", numbers=((3, None), (), ()), style=style)

    def test_labels_that_no_page_names_have_no_numbers(self):
        self.check("@label{y} @label{x} @label{z} @par{@page{x} @page{x}}", "4 4", numbers=((4,), (), ()))

    def test_notes(self):
        flow = self.check("@par{a @note{b} c}", ("a *1 c", (1,)))
        self.assertEqual(flow[3], ((("*1 b        ", " " * 12),),))
        flow = self.check("@par{aaaaaaa @note{@hole{who}{1} b} ccccccc @note{e}} @list{@item{@note{ffff gggg hhhh} i}}",
                          ("aaaaaaa   *1", (1,)), ("ccccccc *2", (2,)), None, ("+ *3 i", (3,)))
        self.assertEqual(flow[3], ((("*1 cds b    ", "   ###      "),), (("*2 e        ", " " * 12),),
                                   (("*3 ffff gggg", " " * 12), ("hhhh        ", " " * 12))))
        self.assertEqual(stack_of(flow)[0], ((0, 1, 1), (230, 1, 1), (None, 0, 0), (0, 1, 2)))

    def test_several_notes_in_a_row(self):
        flow = self.check("@par{@note{a} @note{b} @note{c} @note{d} @note{e}}", ("*1 *2 *3  *4", (1, 2, 3, 4)), ("*5", (5,)))
        self.assertEqual([row[2] for row in stack_of(flow)[0]], [4, 1])

    def test_ten_and_more_notes(self):
        text = "@par{" + "@note{x} " * 9 + "} @list{" + "@item{@note{y}}" * 3 + "}"
        flow = self.check(text, ("*1 *2 *3  *4", (1, 2, 3, 4)), ("*5 *6 *7  *8", (5, 6, 7, 8)), ("*9", (9,)), None,
                          ("+ *10", (10,)), ("+ *11", (11,)), ("+ *12", (12,)))
        self.assertEqual([strips[0][0].rstrip() for strips in flow[3]],
                         [f"*{number} x" for number in range(1, 10)] + [f"*{number} y" for number in (10, 11, 12)])

    def test_notes_are_set_not_ragged_and_tell_pages(self):
        flow = self.flow("@label{x} @par{@note{aa bb @page{x} ccccccccc d}}", ((12,), (), ()))
        self.assertEqual([signs for signs, _ in flow[3][0]], ["*1 aa bb  12", "ccccccccc d "])
        flow = self.flow("@label{x} @par{@note{@page{x}}}", ((None,), (), ()))
        self.assertEqual([signs for signs, _ in flow[3][0]], ["*1 ??       "])
        style = STYLE[:3] + ((("*", 3),),) + STYLE[4:]
        flow = self.check("@par{@note{a}}", ("*__1", (1,)), style=style)
        self.assertEqual(flow[3][0][0][0], "*__1 a      ")

    def test_contents(self):
        text = "@contents @head{aa} @par{x} @head{bb @hole{who}} @contents"
        flow = self.check(text, "aa 0", "bb cd 0", None, "aa", None, "x", None, "bb cd", None, "aa 0", "bb cd 0")
        self.assertEqual(self.covers(flow), ["", "   ##", None, "", None, "", None, "   ##", None, "", "   ##"])
        self.check(text, "aa ??", "bb cd 12", None, "aa", None, "x", None, "bb cd", None, "aa ??", "bb cd 12",
                   numbers=((), (None, 12), ()))
        # The number is one more word: where it does not fit, it stands on a line of its own.
        self.check("@contents @head{aaaaaaaaaaa}", "aaaaaaaaaaa", "1", None, "aaaaaaaaaaa", numbers=((), (1,), ()))
        self.check("@contents @head{aa bb ccc dddddddd}", "aa bb ccc", "dddddddd 3", None, "aa bb ccc", "dddddddd",
                   numbers=((), (3,), ()))

    def test_index(self):
        text = "@par{@key{b} @key{a}} @list{@item{@key{b} @key{ab}}} @index"
        self.check(text, "b a", None, "+ b ab", None, "a", "ab", "b")
        self.check(text, "b a", None, "+ b ab", None, "a 1", "ab 2, 10", "b ??", numbers=((), (), ((1,), (2, 10), None)))
        self.check("@par{@key{a}} @index @index", "a", None, "a 1, 2, 3, 4", None, "a 1, 2, 3, 4", numbers=((), (), ((1, 2, 3, 4),)))
        self.check("@par{@key{a}} @index", "a", None, "a 10, 20, 30", numbers=((), (), ((10, 20, 30),)))
        self.check("@par{@key{a}} @index", "a", None, "a 1, 10, 20,", "30", numbers=((), (), ((1, 10, 20, 30),)))

    def test_keys_in_the_order_of_strings(self):
        self.check("@index @par{@key{b} @key{'x} @key{2} @key{10} @key{aa} @key{a} @key{b}}", "'x", "10", "2", "a", "aa", "b", None,
                   "b 'x 2 10 aa", "a b")

    def test_no_numbers_without_their_blocks(self):
        self.check("@head{a} @par{@key{b}}", "a", None, "b", numbers=((), (), ()))

    def test_figures(self):
        frame = (FRAME, " " * 12)
        flow = self.flow("@figure{3}{}")
        self.assertEqual(flow[2], ((0, (frame,) * 4),))
        flow = self.flow("@figure{1}{aa @hole{who} ccccccccccc ddd}")
        self.assertEqual(flow[2], ((0, (frame, ("aa cd       ", "   ##       "), ("ccccccccccc ", " " * 12),
                                         ("ddd         ", " " * 12), frame)),))
        # A caption is set ragged, as a row of its own.
        flow = self.flow("@figure{6}{aa bb cc ddddddddd}")
        self.assertEqual([signs for signs, _ in flow[2][0][1]], [FRAME] * 6 + ["aa bb cc    ", "ddddddddd   ", FRAME])

    def test_from_where_on_figures_are_known(self):
        text = "@figure{1}{} @par{a} @figure{2}{} @figure{3}{} @index @list{@item{b} @item{c}} @label{x} @figure{4}{} @contents"
        flow = self.check(text, "a", None, "+ b", "+ c")
        self.assertEqual([known for known, _ in flow[2]], [0, 2, 2, 4])
        self.assertEqual(stack_of(flow)[1], ((2, 0), (3, 2), (4, 2), (5, 4)))
        flow = self.flow("@figure{1}{} @figure{2}{}")
        self.assertEqual([known for known, _ in flow[2]], [0, 0])
        # The first row entry behind the figure, also if it is one of the contents.
        flow = self.check("@head{a} @figure{1}{} @contents", "a", None, "a 0")
        self.assertEqual([known for known, _ in flow[2]], [2])

    def test_stacks(self):
        self.assertEqual(stack_of(self.flow("")), ((), ()))
        flow = self.flow("@head{a} @par{aaaaaa aaaaaa @note{b} @note{aaaaaaa aaaaaaa}} @figure{2}{c}")
        self.assertEqual(stack_of(flow), (((0, 1, 0), (None, 0, 0), (None, 1, 0), (230, 1, 3)), ((4, 4),)))

    def refused(self, text, part, numbers=None, style=STYLE):
        with self.assertRaises(TooWide, msg=text) as caught:
            self.flow(text, numbers, style)
        self.assertEqual(caught.exception.part, part, text)

    def test_words_that_are_too_wide(self):
        for text in ("@head{a aaaaaaaaaaaaa}", "@par{aaaaaaaaaaaaa}", "@list{@item{a} @item{aaaaaaaaaaa}}",
                     "@figure{1}{aaaaaaaaaaaaa}", "@par{a @note{aaaaaaaaaaaaa}}", "@par{mmmmmmm}"):
            self.refused(text, "word")
        self.check("@list{@item{aaaaabbaaaaa}}", "+ aaaaab-", "  baaaaa")
        self.refused("@label{x} @par{@page{x}}", "word", ((10 ** 12,), (), ()))
        self.refused("@contents @head{a}", "word", ((), (10 ** 12,), ()))
        self.refused("@par{@key{a}} @index", "word", ((), (), ((1, 10 ** 11, 2),)))
        self.check("@par{@key{a}} @index", "a", None, "a 1,", "100000000000", numbers=((), (), ((1, 10 ** 11),)))

    def test_the_first_of_several_faults(self):
        table, formula, word = "@table{@row{@cell{aaaaaaa aaaaaaa}}}", "@show{aaaaaaa aaaaaaa}", "@par{aaaaaaaaaaaaa}"
        figure, note = "@figure{1}{aaaaaaaaaaaaa}", "@par{b @note{aaaaaaaaaaaaa}}"
        for first, part in ((table, "table"), (formula, "formula"), (word, "word"), (figure, "word")):
            for later in (table, formula, word, figure, note):
                self.refused(first + later, part)
                self.refused("@par{a}" + first + later, part)
        # Notes come behind all blocks.
        for block, part in ((table, "table"), (formula, "formula"), (word, "word"), (figure, "word")):
            self.refused(note + block, part)
            self.refused(block + note, part)
        self.refused(note, "word")

    def test_arguments_stay_and_results_are_equal(self):
        text = "@head{a} @par{b @note{c} @key{d}} @figure{1}{} @index @contents"
        self.assertEqual(self.flow(text), self.flow(text))
        self.assertIsInstance(self.flow(text), tuple)


class PricesTest(unittest.TestCase):
    """The prices of breaks [23]; widow is 30, orphan 200 and split 7."""

    def check(self, text, *prices, numbers=None):
        told = record(text)
        flow = flow_of(told, STYLE, first_numbers(told) if numbers is None else numbers)
        self.assertEqual(flow[1], prices, text)
        stack = stack_of(flow)
        self.assertEqual(tuple(price for price, _, _ in stack[0]), prices)
        self.assertEqual([kind for _, kind, _ in stack[0]], [0 if entry is None else 1 for entry in flow[0]])

    def test_runs_of_a_paragraph(self):
        line = "aaaaaaaaaa "
        self.check("@par{" + line + "}", 0)
        self.check("@par{" + line * 2 + "}", 0, 230)
        self.check("@par{" + line * 3 + "}", 0, 200, 30)
        self.check("@par{" + line * 4 + "}", 0, 200, 0, 30)
        self.check("@par{" + line * 6 + "}", 0, 200, 0, 0, 0, 30)

    def test_between_blocks(self):
        self.check("@par{a} @par{b}", 0, None, 0)
        self.check("@par{a} @show{b} @table{@row{@cell{c}}} @list{@item{d}} @head{e}", 0, None, 0, None, 0, None, 0, None, 0)
        self.check("@par{aaaaaaa aaaaaaa} @par{aaaaaaa aaaaaaa}", 0, 230, None, 0, 230)

    def test_behind_a_heading(self):
        self.check("@head{a} @par{b}", 0, None, None)
        self.check("@head{a} @head{b} @par{c}", 0, None, None, None, None)
        self.check("@head{a} @label{x} @figure{1}{} @index @par{bbbbbbb ccccccc} @par{d}", 0, None, None, 230, None, 0)
        self.check("@par{a} @head{b}", 0, None, 0)
        self.check("@head{a} @contents @par{b}", 0, None, None, None, 0)
        self.check("@head{a} @list{@item{b} @item{c}}", 0, None, None, 0)
        self.check("@head{a} @table{@row{@cell{b}} @row{@cell{c}}}", 0, None, None, 7)

    def test_within_a_heading_and_a_formula(self):
        self.check("@head{aaaaaaaaa aaaaaaaaa aaaaaaaaa}", 0, None, None)
        self.check("@show{@over{@over{a}{b}}{c}}", 0, None, None, None, None)

    def test_between_rows_of_a_table(self):
        self.check("@table{@row{@cell{a}}}", 0)
        self.check("@table{" + "@row{@cell{a}}" * 4 + "}", 0, 7, 7, 7)

    def test_between_items(self):
        self.check("@list{@item{a} @item{b} @item{c}}", 0, 0, 0)
        self.check("@list{@item{aaaaaaa aaaaaaa} @item{b} @item{aaaaaaa aaaaaaa aaaaaaa}}", 0, 230, 0, 0, 200, 30)

    def test_between_entries_of_contents_and_index(self):
        self.check("@contents @head{aaaaaaaaaaaa} @head{b}", 0, 230, 0, None, 0, None, None)
        self.check("@index @par{@key{aaaaaaaaaaaa} @key{b}}", 0, 0, None, 0, 230)
        self.check("@index @par{@key{b} @key{c}}", 0, 200, 30, 0, None, 0, numbers=((), (), (tuple(range(10, 18)), (1,))))


if __name__ == "__main__":
    unittest.main()
