"""The faults of whole records [10], and each stage on the way from a text to a record."""

import unittest

from hushedpages.blocks import blocks_of, record_of
from hushedpages.errors import BadCall, BadText, Misplaced, TooLarge, TooLong, Twice, Unknown
from hushedpages.reading import read_tree

LABEL_AT_THE_END = ("@label{z}", Misplaced, "label")
SECOND_LABEL = ("@label{y} @contents @label{y} @contents", Twice, "y")
PAGE_OF_NO_LABEL = ("@par{@page{x}}", Unknown, "x")
MANY_BLOCKS = ("@contents" * 41, TooLarge, "blocks")
MANY_PIECES = ("@par{" + "a " * 301 + "}", TooLarge, "pieces")
LARGE_TABLE = ("@table{@row{@cell{8}{} @cell{}}}", TooLarge, "table")
# In the order told; a label at the end is put behind the others.
WHOLE = (SECOND_LABEL, PAGE_OF_NO_LABEL, MANY_BLOCKS, MANY_PIECES, LARGE_TABLE)


def told(error):
    return next(iter(vars(error).values()))


class WholeRecordsTest(unittest.TestCase):
    def refused(self, text, kind, worth):
        for function in (lambda: blocks_of(read_tree(text)), lambda: record_of(text)):
            with self.assertRaises(kind, msg=text) as caught:
                function()
            self.assertEqual(told(caught.exception), worth, text)

    def taken(self, text):
        self.assertEqual(blocks_of(read_tree(text)), record_of(text))

    def test_a_label_at_the_end(self):
        for text in ("@label{a}", "@par{x} @label{a}", "@label{a} @par{x} @label{b} @label{c}"):
            self.refused(text, Misplaced, "label")
        for block in ("@contents", "@index", "@figure{1}{}", "@par{x}", "@show{x}"):
            self.taken("@label{a} @label{b} " + block)

    def test_a_second_label(self):
        self.refused("@label{a} @label{a} @par{x}", Twice, "a")
        self.refused("@label{a} @label{b} @par{x} @label{b} @label{a} @par{x}", Twice, "b")
        self.taken("@label{a} @par{x} @label{b} @par{x}")

    def test_a_page_of_a_label_that_there_is_not(self):
        self.taken("@par{@page{a}} @label{a} @par{x}")
        self.taken("@table{@row{@cell{@page{a}}}} @par{@note{@page{a}}} @label{a} @par{x}")
        self.refused("@par{@page{a} @page{b} @page{c}} @label{a} @par{x}", Unknown, "b")
        self.refused("@list{@item{@note{@page{b}} @page{c}}}", Unknown, "b")
        self.refused("@list{@item{@page{c} @note{@page{b}}}}", Unknown, "c")
        self.refused("@table{@row{@cell{x} @cell{2}{x @page{d}}} @row{@cell{@page{e}}}} @par{@page{f}}", Unknown, "d")

    def test_40_and_41_blocks(self):
        self.taken("@contents" * 40)
        self.refused("@contents" * 41, TooLarge, "blocks")
        labels = " ".join(f"@label{{{sign}}}" for sign in "abcdefghijklmnopqrstuvwxyz")
        self.taken(labels + "@par{x}" * 14)
        self.refused(labels + "@par{x}" * 15, TooLarge, "blocks")

    def test_300_and_301_pieces(self):
        # Each text has two pieces; 298 more are right, 299 are too many.
        two = ("@par{a a}", "@head{a @hole{b}}", "@list{@item{a} @item{@key{a}}}", "@par{@note{a}}", "@figure{1}{a a}",
               "@table{@row{@cell{a} @cell{} @cell{2}{@hole{a}}}}", "@show{@over{a}{@hole{b}}}",
               "@show{@up{@low{a}} @fence{a}}", "@show{@grid{@line{a}{a}}}", "@show{@grid{@line{a} @line{@up{a}}}}",
               "@table{@row{@cell{a}} @row{@cell{a}}}", "@contents @label{x} @par{@page{x} a} @index")
        for text in two:
            self.taken(text + "@par{" + "a " * 298 + "}")
            self.refused(text + "@par{" + "a " * 299 + "}", TooLarge, "pieces")
            self.refused("@par{" + "a " * 150 + "} @head{" + "a " * 149 + "}" + text, TooLarge, "pieces")

    def test_12_and_13_rows(self):
        self.taken("@table{" + "@row{@cell{a}}" * 12 + "}")
        self.refused("@table{" + "@row{@cell{a}}" * 13 + "}", TooLarge, "table")
        self.refused("@par{a} @table{@row{@cell{}}} @table{" + "@row{@cell{}}" * 13 + "}", TooLarge, "table")

    def test_spans_of_a_sum_of_8_and_9(self):
        for cells in ("@cell{8}{a}", "@cell{}" * 8, "@cell{3}{} @cell{5}{}", "@cell{2}{} @cell{9} @cell{5}{}"):
            self.taken("@table{@row{" + cells + "}}")
            self.taken("@table{@row{" + cells + "} @row{" + cells + "}}")
            self.refused("@table{@row{" + cells + "@cell{}}}", TooLarge, "table")
            self.refused("@table{@row{@cell{}} @row{@cell{}" + cells + "}}", TooLarge, "table")

    def test_the_first_of_two_faults(self):
        for at, (text, kind, worth) in enumerate(WHOLE):
            self.refused(text, kind, worth)
            for later, _, _ in WHOLE[at:]:
                self.refused(f"{text} {later}" if later != text else text, kind, worth)
                self.refused(f"{later} {text}" if later != text else text, kind, worth)
            self.refused(f"{text} {LABEL_AT_THE_END[0]}", *LABEL_AT_THE_END[1:])

    def test_faults_of_nodes_go_ahead(self):
        for text, _, _ in WHOLE + (LABEL_AT_THE_END,):
            self.refused(text + " @par", BadCall, "par")
            self.refused(text + " @par{@item}", Misplaced, "item")
            self.refused(text + " x", Misplaced, "x")

    def test_each_stage_of_a_text(self):
        long = "@par{" + "a " * 3000 + "}"
        deep = "@let{m p}{@up{@up{@up{@up{@up{@p}}}}}} @show{@m{@m{@m{@m{a}}}}}"
        stages = (("}", BadText, 0), ("@zz", Unknown, "zz"), ("@let", BadCall, "let"), ("@let{a}{} @let{a}{}", Twice, "a"),
                  ("@let{a}{}" + "".join(f"@let{{m{sign}{more}}}{{}}" for sign in "abcde" for more in "abcdefgh"),
                   TooLarge, "macros"),
                  (long, TooLong, 3001), (deep, TooLarge, "nesting"), ("wo", Misplaced, "wo"), ("@par", BadCall, "par"))
        for text, kind, worth in stages + WHOLE:
            with self.assertRaises(kind, msg=text) as caught:
                record_of(text)
            self.assertEqual(told(caught.exception), worth, text)

    def test_the_first_stage_that_raises(self):
        deep = "@show{" + "@up{" * 10 + "@m{" + "a" + "}" * 12
        stages = (("}", BadText, None), ("@zz", Unknown, "zz"), ("@par{" + "a " * 3000 + "}", TooLong, None),
                  (deep, TooLarge, "nesting"), ("@par", BadCall, "par"), ("@label{a}", Misplaced, "label"))
        define = "@let{m p}{" + "@up{" * 10 + "@p" + "}" * 10 + "}"
        for at, (text, kind, worth) in enumerate(stages):
            for later, _, _ in stages[at + 1:]:
                for whole in (f"{define} {text} {later}", f"{define} {later} {text}"):
                    with self.assertRaises(kind, msg=whole[:80]) as caught:
                        record_of(whole)
                    if worth is not None:
                        self.assertEqual(told(caught.exception), worth)
        with self.assertRaises(TooLong):
            record_of("@par @let{m p}{@p@p@p@p@p@p@p@p@p@p} @m{@m{@m{@m{a}}}}")

    def test_what_a_macro_makes_is_misplaced(self):
        for text, name in (("@let{m}{x} @m", "x"), ("@let{m p}{@par{@p}} @m{@key{a} @item{b}}", "item")):
            with self.assertRaises(Misplaced) as caught:
                record_of(text)
            self.assertEqual(caught.exception.name, name)
        with self.assertRaises(BadCall) as caught:
            record_of("@let{m p}{@par{@p}} @m{}")
        self.assertEqual(caught.exception.name, "par")


if __name__ == "__main__":
    unittest.main()
