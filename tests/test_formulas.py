"""Boxes of formulas, and displayed formulas [21]."""

import unittest

from hushedpages.blocks import record_of
from hushedpages.books import filled
from hushedpages.errors import TooWide
from hushedpages.formulas import box_of, shown

PLAIN = (12, 3, 1, (), (), (), (0, 0, 0, 0, 0))
WIDE = (12, 3, 1, (("(", 2), ("m", 2), ("w", 3)), (("w", "m", 1),), (("b", "b", 0),), (0, 0, 0, 0, 0))
BOOK = (("who", 1, (("ab",), ("c", "d")), ("", "s")),)


def formula_of(text):
    """The formula of a text; the only secret has the stem cd."""
    return filled(record_of("@show{" + text + "}"), BOOK, ("cd",))[0][1]


class FormulasTest(unittest.TestCase):
    def check(self, text, base, *rows, covers=None, style=PLAIN):
        """The rows of a box, and the number of the base row."""
        up, strips = box_of(style, formula_of(text))
        width = max(map(len, rows))
        self.assertEqual([signs for signs, _ in strips], [row.ljust(width) for row in rows], text)
        covers = covers or ("",) * len(rows)
        self.assertEqual([cover for _, cover in strips], [cover.ljust(width) for cover in covers], text)
        self.assertEqual(up, base, text)

    def test_the_example_of_the_document(self):
        formula = (("over", (("say", "a"),), (("say", "bcd"),)), ("up", (("say", "e"),)))
        self.assertEqual(box_of(PLAIN, formula), (1, ((" a e", "    "), ("--- ", "    "), ("bcd ", "    "))))

    def test_words(self):
        self.check("a", 0, "a")
        self.check("a + b = 12", 0, "a + b = 12")
        self.check("mw wm m", 0, "m_w__ w_m_ m_", style=WIDE)
        self.check("a @hole{who} @hole{who}{1}", 0, "a cd cds", covers=("  ## ###",))

    def test_over(self):
        self.check("@over{a}{b}", 1, "a", "-", "b")
        self.check("@over{a}{bbb}", 1, " a", "---", "bbb")
        self.check("@over{a}{bb}", 1, "a", "--", "bb")
        self.check("@over{a}{bbbb}", 1, " a", "----", "bbbb")
        self.check("@over{aaaa}{bb}", 1, "aaaa", "----", " bb")
        self.check("@over{aaaaa}{bb}", 1, "aaaaa", "-----", " bb")
        self.check("@over{a b}{c}", 1, "a b", "---", " c")
        self.check("x @over{a}{b} y", 1, "  a", "x - y", "  b")
        self.check("@over{m}{a}", 1, "m_", "--", "a", style=WIDE)

    def test_over_within_over(self):
        self.check("@over{@over{a}{b}}{ccc}", 3, " a", " -", " b", "---", "ccc")
        self.check("@over{a}{@over{b}{ccc}} = d", 1, " a", "--- = d", " b", "---", "ccc")

    def test_up_and_low(self):
        self.check("a @up{b}", 1, " b", "a")
        self.check("a @low{b}", 0, "a", " b")
        self.check("@up{b}", 1, "b", "")
        self.check("@low{b}", 0, "", "b")
        self.check("a @up{b} c", 1, " b", "a  c")
        self.check("a @low{b} c", 0, "a  c", " b")
        self.check("@up{b} a", 1, "b", "  a")

    def test_up_and_low_behind_one_another(self):
        self.check("a @up{b} @low{c}", 1, " b", "a", "  c")
        self.check("a @low{b} @low{c} d", 0, "a   d", " bc")
        self.check("a @up{b} @up{c}", 1, " bc", "a")

    def test_up_and_low_within_one_another(self):
        self.check("a @up{b @up{c}}", 2, "  c", " b", "a")
        self.check("a @up{b @low{c}}", 2, " b", "  c", "a")
        self.check("a @low{b @up{c}}", 0, "a", "  c", " b")
        self.check("a @low{b @low{c}}", 0, "a", " b", "  c")
        self.check("a @up{@up{b}}", 2, " b", "", "a")
        self.check("a @low{@low{b}} c", 0, "a  c", "", " b")
        self.check("a @up{@low{b}}", 2, "", " b", "a")

    def test_high_boxes_in_up_and_low(self):
        self.check("a @up{@over{b}{c}}", 3, " b", " -", " c", "a")
        self.check("a @low{@over{b}{c}} d", 0, "a  d", " b", " -", " c")
        self.check("@over{a}{b} @up{c}", 1, "ac", "-", "b")

    def test_fence(self):
        self.check("@fence{a}", 0, "(a)")
        self.check("a @fence{b c} d", 0, "a (b c) d")
        self.check("@fence{@over{a}{bbb}}", 1, "( a )", "(---)", "(bbb)")
        self.check("@fence{a @up{b}} c", 1, "( b)", "(a ) c")
        self.check("@fence{a @low{b}} @up{c}", 1, "    c", "(a )", "( b)")
        self.check("@fence{@fence{a}}", 0, "((a))")

    def test_signs_of_the_rules_are_one_unit_wide(self):
        self.check("@fence{m (}", 0, "(m_ (_)", style=WIDE)
        style = WIDE[:3] + ((("(", 3), (")", 3)), (), ()) + WIDE[6:]
        self.check("@fence{a}", 0, "(a)", style=style)
        self.check("@fence{(}", 0, "((__)", style=style)

    def test_a_grid_of_one_line(self):
        self.check("@grid{@line{a}}", 0, "a")
        self.check("@grid{@line{a}{bb}{c}}", 0, "a bb c")
        self.check("x @grid{@line{a}{bb}} y", 0, "x a bb y")
        self.check("@grid{@line{@over{a}{b}}{c}}", 1, "a", "- c", "b")
        self.check("x @grid{@line{a @up{b}}{c}}", 0, "x  b", "  a  c")

    def test_grids_with_tracks_of_unlike_widths(self):
        self.check("@grid{@line{a}{bbb}{c} @line{ddd}{e}{f}}", 0, "a   bbb c", "ddd e   f")
        self.check("@grid{@line{a} @line{bb} @line{c}}", 1, "a", "bb", "c")
        self.check("@grid{@line{m}{a} @line{a}{w}}", 0, "m_ a", "a  w__", style=WIDE)

    def test_base_rows_of_grids(self):
        # Of all h rows, (h - 1) // 2 stand above the base row.
        lines = [f"@line{{{sign}}}" for sign in "abcdef"]
        for many, base in ((1, 0), (2, 0), (3, 1), (4, 1), (5, 2), (6, 2)):
            rows = ["  " + sign for sign in "abcdef"[:many]]
            rows[base] = "x" + rows[base][1:] + " y"
            self.check("x @grid{" + " ".join(lines[:many]) + "} y", base, *rows)

    def test_grids_with_boxes_of_unlike_heights(self):
        self.check("@grid{@line{@over{a}{b}}{c} @line{d}{e @low{f}}}", 2, "a", "- c", "b", "d e", "   f")
        self.check("@grid{@line{a @up{b}}{c @low{d}} @line{e}{@over{f}{g}}}", 2, " b", "a  c", "    d", "   f", "e  -", "   g")
        self.check("x @grid{@line{@over{a}{b}} @line{c}}", 1, "  a", "x -", "  b", "  c")

    def test_formulas_in_formulas(self):
        self.check("@over{a @up{2}}{@fence{b @low{1}}} = @grid{@line{1}{@fence{0}} @line{@over{x}{yy}}{2}}", 2,
                   "  2", " a     1  (0)", "---- = x", "(b )   -- 2", "( 1)   yy")

    def test_struck_words(self):
        self.check("@over{@hole{who}}{abcd}", 1, " cd", "----", "abcd", covers=(" ##", "", ""))
        self.check("a @up{@hole{who}}", 1, " cd", "a", covers=(" ##", ""))
        self.check("a @low{@hole{who}}", 0, "a", " cd", covers=("", " ##"))
        self.check("@fence{@hole{who}{1}}", 0, "(cds)", covers=(" ###",))
        self.check("@grid{@line{@hole{who}}{a} @line{abc}{@hole{who}}}", 0, "cd  a", "abc cd", covers=("##", "    ##"))
        self.check("@over{@hole{who}}{@hole{who}}", 1, "cd", "--", "cd", covers=("##", "", "##"))
        formula = (("hid", "wm"), ("over", (("hid", "m"),), (("say", "abc"),)))
        self.assertEqual(box_of(WIDE, formula), (1, (("     m_ ", "     ## "), ("w_m_ ---", "####    "), ("     abc", " " * 8))))

    def check_shown(self, text, *rows, style=PLAIN):
        told = shown(style, formula_of(text))
        self.assertEqual([signs for signs, _ in told], [row.ljust(style[0]) for row in rows])
        self.assertTrue(all(len(cover) == style[0] for _, cover in told))
        return told

    def test_displayed_formulas_stand_in_the_middle(self):
        self.check_shown("a", "     a")
        self.check_shown("aa", "     aa")
        self.check_shown("a a", "    a a")
        self.check_shown("a", "      a", style=(13,) + PLAIN[1:])
        self.check_shown("aa", "     aa", style=(13,) + PLAIN[1:])
        self.check_shown("@over{a}{bbb} @up{c}", "     a c", "    ---", "    bbb")
        told = self.check_shown("a @hole{who}", "    a cd")
        self.assertEqual(told[0][1], "      ##    ")

    def test_just_as_wide_as_the_measure(self):
        self.check_shown("abcd efghijk", "abcd efghijk")
        self.check_shown("@fence{aaaaa bbbb}", "(aaaaa bbbb)")
        self.check_shown("aaaaaaaaaaa", "aaaaaaaaaaa")
        for text in ("abcd efghijkl", "@fence{aaaaa bbbbb}", "@over{a}{abcdefg hijkl}", "aaaaaaaaaaaa @up{a}", "a" * 13,
                     "@grid{@line{aaaaaa}{b} @line{c}{dddddd}}", "bbbbbbbbbbbbbb"):
            for style in (PLAIN, WIDE):
                with self.assertRaises(TooWide) as caught:
                    shown(style, formula_of(text))
                self.assertEqual(caught.exception.part, "formula")

    def test_wide_boxes_are_no_fault(self):
        self.assertEqual(len(box_of(PLAIN, formula_of("a " * 100))[1][0][0]), 199)

    def test_a_deep_formula(self):
        text = "a"
        for at in range(11):
            text = ("@up{%s}", "@fence{%s}", "@over{%s}{b}")[at % 3] % text
        self.assertEqual(len({len(signs) for signs, _ in box_of(PLAIN, formula_of(text))[1]}), 1)


if __name__ == "__main__":
    unittest.main()
