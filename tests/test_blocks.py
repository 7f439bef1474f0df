"""The records that are built from trees [8], [9]."""

import unittest

from hushedpages.blocks import blocks_of, record_of
from hushedpages.reading import read_tree


def say(*words):
    return tuple(("say", word) for word in words)


class BlocksTest(unittest.TestCase):
    def built(self, text, *blocks):
        """Both functions tell these blocks for a text without macros."""
        tree = read_tree(text)
        self.assertEqual(blocks_of(tree), blocks, text)
        self.assertEqual(blocks_of(tree), blocks, text)
        self.assertEqual(tree, read_tree(text))
        self.assertEqual(record_of(text), blocks, text)

    def piece(self, text, *pieces):
        self.built(f"@par{{{text}}}", ("par", pieces))

    def part(self, text, *parts):
        self.built(f"@show{{{text}}}", ("show", parts))

    def test_the_record_without_blocks(self):
        self.built("")
        self.assertEqual(blocks_of(()), ())

    def test_headings_and_paragraphs(self):
        self.built("@head{a b}", ("head", say("a", "b")))
        self.built("@par{a}", ("par", say("a")))
        self.built("@par{a} @head{b} @par{x y z}", ("par", say("a")), ("head", say("b")), ("par", say("x", "y", "z")))

    def test_lists(self):
        self.built("@list{@item{a}}", ("list", (say("a"),)))
        self.built("@list{@item{a b} @item{c}}", ("list", (say("a", "b"), say("c"))))

    def test_tables(self):
        self.built("@table{@row{@cell{}}}", ("table", (((1, ()),),)))
        self.built("@table{@row{@cell{a b} @cell{2}{c}} @row{@cell{3}{}}}",
                   ("table", (((1, say("a", "b")), (2, say("c"))), ((3, ()),))))
        # The one argument of a cell is its pieces, also if it looks like a span.
        self.built("@table{@row{@cell{2}}}", ("table", (((1, say("2")),),)))

    def test_each_span(self):
        for span in range(1, 9):
            self.built(f"@table{{@row{{@cell{{{span}}}{{x}}}}}}", ("table", (((span, say("x")),),)))

    def test_figures(self):
        for height in range(1, 7):
            self.built(f"@figure{{{height}}}{{}}", ("figure", height, ()))
        self.built("@figure{2}{a @hole{b}}", ("figure", 2, say("a") + (("hole", "b", 0),)))

    def test_labels_contents_and_indexes(self):
        self.built("@label{a} @par{x}", ("label", "a"), ("par", say("x")))
        self.built("@label{a} @label{b} @contents", ("label", "a"), ("label", "b"), ("contents",))
        self.built("@label{a} @index @index @contents @contents",
                   ("label", "a"), ("index",), ("index",), ("contents",), ("contents",))

    def test_words_are_said(self):
        self.piece("a 10 .,:;!?'()+=<>*/", *say("a", "10", ".,:;!?'()+=<>*/"))

    def test_holes(self):
        self.piece("@hole{who}", ("hole", "who", 0))
        for ending in range(3):
            self.piece(f"@hole{{who}}{{{ending}}}", ("hole", "who", ending))
        self.piece("@hole{par}@hole{abcdefgh}{2}", ("hole", "par", 0), ("hole", "abcdefgh", 2))

    def test_keys(self):
        self.piece("@key{10.} @key{a} @key{a}", ("key", "10."), ("key", "a"), ("key", "a"))

    def test_pages(self):
        self.built("@par{@page{here}} @label{here} @par{@page{here}}",
                   ("par", (("page", "here"),)), ("label", "here"), ("par", (("page", "here"),)))

    def test_notes(self):
        self.piece("@note{a @hole{b}{1}} c", ("note", say("a") + (("hole", "b", 1),)), ("say", "c"))
        self.built("@label{l} @list{@item{@note{@page{l}}}}", ("label", "l"), ("list", ((("note", (("page", "l"),)),),)))

    def test_formulas(self):
        self.part("a @hole{b}{1}", ("say", "a"), ("hole", "b", 1))
        self.part("@over{a}{b c}", ("over", say("a"), say("b", "c")))
        self.part("x @up{2} @low{i j} @fence{z}", ("say", "x"), ("up", say("2")), ("low", say("i", "j")),
                  ("fence", say("z")))
        self.part("@up{@low{@over{@fence{a}}{@hole{b}}}}",
                  ("up", (("low", (("over", (("fence", say("a")),), (("hole", "b", 0),)),)),)))

    def test_grids(self):
        self.part("@grid{@line{a}}", ("grid", ((say("a"),),)))
        self.part("@grid{@line{a}{b c} @line{@up{x}}{@hole{y}}}",
                  ("grid", ((say("a"), say("b", "c")), ((("up", say("x")),), (("hole", "y", 0),)))))
        self.part("@grid{" + "@line{a}{a}{a}{a}{a}{a}" * 6 + "}", ("grid", ((say("a"),) * 6,) * 6))
        self.part("@grid{@line{@grid{@line{a}{b}}}}", ("grid", (((("grid", ((say("a"), say("b")),)),),),)))

    def test_macros_are_expanded_ahead(self):
        self.assertEqual(record_of("@let{m p}{@item{@p} @item{x}} @list{@m{a}@m{b}}"),
                         (("list", (say("a"), say("x"), say("b"), say("x"))),))
        self.assertEqual(record_of("@let{n}{3} @figure{@n}{} @let{e}{} @par{@e x}"),
                         (("figure", 3, ()), ("par", say("x"))))
        self.assertEqual(record_of("@let{m}{@par{a}}"), ())

    def test_a_formula_of_nesting_20(self):
        tree = (("word", "a"),)
        formula = say("a")
        for _ in range(19):
            tree = (("call", "up", (tree,)),)
            formula = (("up", formula),)
        self.assertEqual(blocks_of((("call", "show", (tree,)),)), (("show", formula),))


if __name__ == "__main__":
    unittest.main()
