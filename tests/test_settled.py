"""The pages of labels, headings and keys at rest, and the rings ahead of that [25], [26]."""

import random
import unittest

from hushedpages.blocks import record_of
from hushedpages.books import filled
from hushedpages.errors import TooTall, TooWide
from hushedpages.numbers import first_numbers, found_numbers
from hushedpages.sheets import settled

PLAIN = (12, 3, 1, (), (), (), (0, 0, 0, 0, 0))


def style_with(measure=12, depth=3, columns=1, widths=(), breaks=(), prices=(0, 0, 0, 0, 0)):
    return measure, depth, columns, tuple(widths), (), tuple(breaks), prices


def followed(record, style):
    """The numbers at rest and the rings, step by step as the document tells."""
    rings = []
    row = [first_numbers(record)]
    while True:
        new = found_numbers(record, style, row[-1])
        if new not in row:
            row.append(new)
        elif new == row[-1]:
            return new, tuple(rings)
        else:
            ring = row[row.index(new):]
            rings.append(tuple(ring))
            blanked = []
            for part in range(3):
                blanked.append(tuple(ring[0][part][at] if len({numbers[part][at] for numbers in ring}) == 1 else None
                                     for at in range(len(ring[0][part]))))
            row = [tuple(blanked)]


class SettledTest(unittest.TestCase):
    def check(self, text, style, numbers, rings=()):
        record = record_of(text)
        self.assertEqual(settled(record, style)[1:], (numbers, rings))
        self.assertEqual(followed(record, style), (numbers, rings))

    def refused(self, text, style, error, part=None):
        with self.assertRaises(error) as caught:
            settled(record_of(text), style)
        self.assertEqual(vars(caught.exception), {} if part is None else {"part": part})

    def test_records_without_pages(self):
        for record in ((), record_of("@contents"), record_of("@index @contents"), record_of("@label{a} @label{b} @index")):
            self.assertEqual(settled(record, PLAIN), ((), ((), (), ()), ()))

    def test_numbers_that_come_to_rest_at_once(self):
        self.check("@par{a}", PLAIN, ((), (), ()))
        self.check("@label{x} @par{a} @head{b}", PLAIN, ((), (), ()))
        # The index has the word of a key, but no number is told ahead of it.
        self.check("@par{@key{a}}", PLAIN, ((), (), ()))

    def test_numbers_that_come_to_rest_later(self):
        self.check("@par{@page{x}} @label{x} @par{a}", PLAIN, ((1,), (), ()))
        self.check("@par{@page{x}}" + "@par{b}" * 9 + "@label{x} @par{a}", PLAIN, ((6,), (), ()))
        self.check("@contents @head{a ccc} @label{x} @par{@page{x}}", style_with(7, 3, widths=(("1", 3), ("2", 3))),
                   ((2,), (2,), ()))
        self.check("@index @par{@key{b}} @figure{3}{} @par{@key{a} @key{b}}", style_with(12, 5), ((), (), ((2,), (1, 2))))
        # The numbers change several times until they rest.
        text = ("@contents @index @par{@page{x} @page{y} @page{y}} @head{a} @label{x} @par{aaaaaa} "
                "@par{@page{y} @page{y} @key{c}} @label{y} @par{aaaa @key{c} aaaaaa}")
        style = style_with(6, 5, widths=(("2", 3), ("4", 2), ("5", 2), ("6", 3), ("?", 2)), prices=(3, 0, 0, 3, 3))
        self.check(text, style, ((2, 3), (2,), ((3,),)))
        record = record_of(text)
        row = [first_numbers(record)]
        for _ in range(4):
            row.append(found_numbers(record, style, row[-1]))
        self.assertEqual(len(set(row)), 5)

    def test_a_ring_of_a_label(self):
        # With a wide 1, the label stands on page 2; then it is told by a narrow 2, and stands on page 1.
        self.check("@par{@page{x} @page{x} @page{x}} @label{x} @par{aa}", style_with(8, 3, widths=(("1", 3), ("?", 3))),
                   ((None,), (), ()), ((((1,), (), ()), ((2,), (), ())),))

    def test_a_ring_of_a_heading(self):
        self.check("@contents @head{bb a} @par{aa}", style_with(6, 5, widths=(("1", 3), ("?", 3))),
                   ((), (None,), ()), ((((), (1,), ()), ((), (2,), ())),))

    def test_a_ring_of_a_key(self):
        self.check("@index @par{@key{b} aaaa} @par{@key{b}}", style_with(7, 3, widths=(("1", 2), ("2", 3), ("?", 2))),
                   ((), (), (None,)), ((((), (), ((1, 2),)), ((), (), ((2,),))),))

    def test_a_ring_of_three_and_of_more_numbers(self):
        self.check("@par{@page{x} @page{x} aaaaaa aaaa @page{x}} @par{c aa @page{x} @page{x} @page{x}} @label{x} @par{a b}",
                   style_with(6, 4, widths=(("1", 3), ("2", 3), ("4", 2), ("5", 3)), prices=(3, 3, 0, 0, 0)),
                   ((None,), (), ()), ((((2,), (), ()), ((4,), (), ()), ((3,), (), ())),))
        self.check("@par{@page{x} a @page{x}} @figure{2}{} @label{x} @par{@page{x} @page{x} a} @par{c @page{y} aa} "
                   "@label{y} @par{@page{y} @page{y} c aaaaaa}", style_with(7, 3, widths=(("1", 3), ("4", 3), ("6", 2))),
                   ((None, None), (), ()),
                   ((((1, 3), (), ()), ((2, 4), (), ()), ((1, 4), (), ()), ((2, 5), (), ())),))

    def test_a_ring_in_which_only_some_numbers_change(self):
        # The label stays on page 2 throughout; both keys change.
        self.check("@contents @index @par{a @page{x} aaaa aa @key{c} @key{b}} @par{@key{b} aaaa aaaa @page{x}} @figure{2}{} "
                   "@label{x} @par{@page{x} @key{c} aa @page{x}}",
                   style_with(6, 4, 2, widths=(("2", 2), ("3", 2), ("5", 2)), prices=(3, 0, 0, 0, 0)),
                   ((2,), (), (None, None)),
                   ((((2,), (), ((1,), (1, 2))), ((2,), (), ((1, 2), (1, 2))), ((2,), (), ((2,), (2,)))),))
        self.check("@contents @index @par{@key{b}} @label{x} @par{@key{c} a aa @page{x}}",
                   style_with(8, 3, widths=(("1", 2), ("2", 3), ("6", 2)), prices=(0, 0, 3, 3, 3)),
                   ((None,), (), ((2,), None)), ((((2,), (), ((2,), (2,))), ((3,), (), ((2,), (3,)))),))

    def test_labels_heads_and_keys_in_one_ring(self):
        self.check("@contents @index @par{@page{x} @page{x} @page{x}} @head{a} @label{x} @par{aaaa @key{b} @key{b}}",
                   style_with(6, 3, widths=(("2", 3), ("3", 3), ("6", 2)), prices=(3, 3, 0, 0, 0)),
                   ((None,), (None,), (None,)), ((((3,), (3,), ((3, 4),)), ((4,), (4,), ((4, 5),))),))

    def test_a_second_ring_behind_a_first_one(self):
        self.check("@figure{1}{} @par{aa @page{x} aa} @label{x} @par{a aaaaaa aa} @head{a ccc a} @label{y} "
                   "@par{@page{y} @page{y} a}", style_with(8, 3, widths=(("1", 3), ("4", 3), ("5", 3), ("?", 3))),
                   ((None, None), (), ()),
                   ((((1, 3), (), ()), ((2, 3), (), ())), (((None, 3), (), ()), ((None, 4), (), ()))))
        self.check("@contents @index @par{@page{x} @page{x} @page{x} a @key{b}} @par{aaaaaa aa a} @par{@page{x} @key{b} "
                   "@page{x}} @label{x} @par{@page{x} @page{x}}",
                   style_with(8, 3, widths=(("1", 3), ("2", 3), ("4", 3), ("?", 3)), prices=(3, 0, 3, 0, 0)),
                   ((None,), (), (None,)),
                   ((((4,), (), ((2, 4),)), ((5,), (), ((2, 4),))), (((None,), (), ((2, 4),)), ((None,), (), ((3, 5),)))))

    def test_random_records_step_by_step(self):
        dice = random.Random(26)
        rings = 0
        for _ in range(500):
            text = random_text(dice)
            widths = sorted((sign, dice.choice((2, 3))) for sign in "1234?" if dice.random() < 0.5)
            style = style_with(dice.randrange(6, 9), dice.randrange(3, 6), dice.randrange(1, 3), widths)
            record = record_of(text)
            try:
                expected = followed(record, style)
            except (TooWide, TooTall) as error:
                self.refused(text, style, type(error), getattr(error, "part", None))
            else:
                self.assertEqual(settled(record, style)[1:], expected)
                rings += len(expected[1])
        self.assertGreater(rings, 10)

    def test_a_record_that_cannot_be_set_with_its_later_numbers_only(self):
        # 0 fits into the cell, 1 does not.
        text = "@par{@page{x}} @label{x} @table{@row{@cell{aaaaaaaaa} @cell{@page{x}}}}"
        found_numbers(record_of(text), style_with(widths=(("1", 3),)), ((0,), (), ()))
        self.refused(text, style_with(widths=(("1", 3),)), TooWide, "table")
        self.check(text, style_with(widths=(("1", 2),)), ((1,), (), ()))
        self.refused("@label{x} @par{@page{x}} @figure{1}{aaaaaaaaaaaaa}", PLAIN, TooWide, "word")
        # With the number 1, the note has two rows, and with its mark it takes four.
        text = "@label{x} @par{a @note{aaaaaaa @page{x}}}"
        self.check(text, PLAIN, ((1,), (), ()))
        self.refused(text, style_with(widths=(("1", 3),)), TooTall)

    def test_too_wide_goes_ahead_of_too_tall_in_one_layout(self):
        tall, wide = "@figure{3}{}", "@par{aaaaaaaaaaaaa}"
        for text, error, part in ((tall, TooTall, None), (tall + wide, TooWide, "word"), (wide + tall, TooWide, "word")):
            self.refused(text, PLAIN, error, part)
        # But here it is too wide only in a later layout.
        late = "@par{@page{x}} @label{x} @table{@row{@cell{aaaaaaaaa} @cell{@page{x}}}}"
        self.refused(late, style_with(widths=(("1", 3),)), TooWide, "table")
        self.refused(tall + late, style_with(widths=(("1", 3),)), TooTall)

    def test_the_first_of_several_that_are_too_wide(self):
        word, formula, table = "@par{aaaaaaaaaaaaa}", "@show{aaaaaaa bbbbbbb}", "@table{@row{@cell{aaaaaaa bbbbbbb}}}"
        note, caption = "@par{a @note{aaaaaaaaaaaaa}}", "@figure{1}{aaaaaaaaaaaaa}"
        for text, part in ((formula + table, "formula"), (table + formula, "table"), (note + table, "table"),
                           (caption + formula, "word"), (formula + caption, "formula"), (note + formula + caption, "formula"),
                           (table + note, "table"), (word + table, "word")):
            self.refused(text, PLAIN, TooWide, part)

    def test_struck_words_change_nothing_but_by_their_shape(self):
        book = (("who", 1, (("a", "n"), ("b", "o", "b")), ("",)),)
        record = record_of("@contents @head{@hole{who} b} @par{@page{x} @page{x} @page{x}} @label{x} @par{@hole{who}}")
        style = style_with(8, 3, widths=(("1", 3), ("?", 3)))
        told = {stem: settled(filled(record, book, (stem,)), style)[1:] for stem in ("an", "no", "bob", "zzz")}
        self.assertEqual(told["an"], told["no"])
        self.assertEqual(told["bob"], told["zzz"])

    def test_equal_arguments_give_equal_results(self):
        record = record_of("@par{@page{x} @page{x} @page{x}} @label{x} @par{aa}")
        style = style_with(8, 3, widths=(("1", 3), ("?", 3)))
        first = settled(record, style)
        settled(record, PLAIN)
        self.assertEqual(settled(record, style), first)


def random_text(dice):
    """A text of paragraphs, headings and figures that tell of two labels."""
    blocks = dice.choice(("", "@contents ", "@index ", "@contents @index "))
    for label in "xy":
        for _ in range(dice.randrange(1, 4)):
            kind = dice.random()
            if kind < 0.3:
                blocks += "@head{" + dice.choice(("a", "bb ccc", "ccc a bb")) + "} "
            elif kind < 0.4:
                blocks += "@figure{1}{} "
            else:
                blocks += "@par{" + random_pieces(dice, 7) + "} "
        blocks += f"@label{{{label}}} @par{{{random_pieces(dice, 5)}}} "
    return blocks


def random_pieces(dice, most):
    pieces = ("@page{x}", "@page{y}", "@page{x}", "@key{b}", "@key{c}", "a", "aa", "aaaa", "aaaaaa")
    return " ".join(dice.choice(pieces) for _ in range(dice.randrange(1, most)))


if __name__ == "__main__":
    unittest.main()
