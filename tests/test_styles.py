"""The parts of styles that are not as told [11]."""

import unittest

from hushedpages.errors import BadStyle
from hushedpages.styles import check_style

PARTS = ("measure", "depth", "columns", "widths", "cuts", "breaks", "prices")
PLAIN = (12, 3, 1, (), (), (), (0, 0, 0, 0, 0))
RICH = (60, 40, 3, (("(", 2), ("9", 3), ("a", 2), ("m", 3)), (("9", "9", 2), ("a", "b", 1), ("m", "a", 1), ("m", "n", 2)),
        (("a", "a", 0), ("a", "b", 999), ("z", "a", 5)), (999, 0, 1, 2, 3))
WORD_CHARACTERS = "abcdefghijklmnopqrstuvwxyz0123456789.,:;!?'()+=<>*/"
LETTERS = "abcdefghijklmnopqrstuvwxyz"
OTHERS = "_-#\"@{}|~ \nA"
# Things of other kinds than those that a part of a style consists of.
STRANGE = ("", "a", "12", "ab", 0, 1, 12, -1, (), ((),), (1,), ("a",), "abcde")

BENT = {
    "measure": (5, 61, 0, -12, 600, "12", (12,), ()),
    "depth": (2, 41, 0, -3, "3", (3,), ()),
    "columns": (0, 4, -1, "1", (1,), ()),
    "prices": (0, "00000", (), (0,) * 4, (0,) * 6, (0, 0, 0, 0, 1000), (1000, 0, 0, 0, 0), (0, 0, -1, 0, 0),
               (0, "0", 0, 0, 0), (0, 0, 0, (0,), 0), ((0, 0, 0, 0, 0),)),
}


def with_part(style, part, worth):
    return tuple(worth if name == part else old for name, old in zip(PARTS, style))


class StylesTest(unittest.TestCase):
    def refused(self, style, part):
        with self.assertRaises(BadStyle, msg=style) as caught:
            check_style(style)
        self.assertEqual(caught.exception.part, part, style)

    def bent(self, part, worth, style=PLAIN):
        self.refused(with_part(style, part, worth), part)

    def taken(self, part, worth, style=PLAIN):
        self.assertIsNone(check_style(with_part(style, part, worth)), (part, worth))

    def test_right_styles(self):
        self.assertIsNone(check_style(PLAIN))
        self.assertIsNone(check_style(RICH))

    def test_no_tuple_of_seven(self):
        for style in ("", "style", "measure", 0, 7, (), PLAIN[:6], PLAIN + (0,), (PLAIN,), (PLAIN,) * 8, PLAIN[1:]):
            self.refused(style, "style")

    def test_bounds(self):
        for part, least, most in (("measure", 6, 60), ("depth", 3, 40), ("columns", 1, 3)):
            for worth in (least, most, (least + most) // 2):
                self.taken(part, worth)
                self.taken(part, worth, RICH)
            for worth in (least - 1, most + 1):
                self.bent(part, worth)
                self.bent(part, worth, RICH)

    def test_things_of_other_kinds(self):
        for part, bent in BENT.items():
            for worth in bent:
                self.bent(part, worth)

    def test_rows_of_other_kinds(self):
        row = {"widths": ("a", 2), "cuts": ("a", "b", 1), "breaks": ("a", "b", 1)}
        may_stand = {"widths": (), "cuts": (1,), "breaks": (0, 1, 12)}
        for part, right in row.items():
            style = with_part(PLAIN, "widths", (("a", 3), ("b", 3)))
            self.taken(part, (right,), style)
            for worth in (0, "", "ab", right, list(right)[0], ((right,),), (right[:-1],), (right + (1,),), ((),), (0,),
                          ("abc",), ("ab",), (right, 0), (right, "abc"), (right, ())):
                self.bent(part, worth, style)
            for at in range(len(right)):
                right_here = may_stand[part] if at == len(right) - 1 else ("a",)
                for strange in STRANGE:
                    worth = (right[:at] + (strange,) + right[at + 1:],)
                    if strange in right_here:
                        self.taken(part, worth, style)
                    else:
                        self.bent(part, worth, style)

    def test_the_characters_of_widths(self):
        for sign in WORD_CHARACTERS:
            self.taken("widths", ((sign, 2),))
        for sign in tuple(OTHERS) + ("", "ab", "aa"):
            self.bent("widths", ((sign, 2),))
        self.taken("widths", tuple((sign, 3) for sign in sorted(WORD_CHARACTERS)))

    def test_widths_are_2_or_3(self):
        for width in (2, 3):
            self.taken("widths", (("a", width),))
        for width in (0, 1, 4, -2, "2"):
            self.bent("widths", (("a", width),))
            self.bent("widths", (("Z", 2), ("a", width)))

    def test_widths_ascend(self):
        self.taken("widths", (("a", 3), ("b", 2), ("c", 3)))
        self.bent("widths", (("b", 2), ("a", 2)))
        self.bent("widths", (("a", 2), ("c", 2), ("b", 3)))
        self.bent("widths", (("a", 2), ("a", 2)))
        self.bent("widths", (("a", 2), ("a", 3)))
        self.bent("widths", (("a", 2), ("1", 2)))

    def test_the_characters_of_cuts(self):
        widths = tuple((sign, 2) for sign in sorted(WORD_CHARACTERS))
        style = with_part(PLAIN, "widths", widths)
        for sign in WORD_CHARACTERS:
            self.taken("cuts", ((sign, "a", 1),), style)
            self.taken("cuts", (("a", sign, 1),), style)
        for sign in tuple(OTHERS) + ("", "ab", "aa"):
            self.bent("cuts", ((sign, "a", 1),), style)
            self.bent("cuts", (("a", sign, 1),), style)

    def test_a_cut_is_less_than_the_width(self):
        style = with_part(PLAIN, "widths", (("a", 2), ("m", 3)))
        for sign, cut in (("a", 1), ("m", 1), ("m", 2)):
            self.taken("cuts", ((sign, "x", cut),), style)
        for sign, cut in (("a", 0), ("a", 2), ("m", 0), ("m", 3), ("m", -1), ("b", 0), ("b", 1), ("n", 1)):
            self.bent("cuts", ((sign, "m", cut),), style)
        self.bent("cuts", (("a", "a", 1),))

    def test_cuts_ascend(self):
        style = with_part(PLAIN, "widths", (("a", 3), ("m", 3)))
        self.taken("cuts", (("a", "a", 2), ("a", "b", 1), ("m", "a", 1)), style)
        for cuts in ((("a", "b", 1), ("a", "a", 1)), (("m", "a", 1), ("a", "b", 1)), (("a", "a", 1), ("a", "a", 1)),
                     (("a", "a", 1), ("a", "a", 2)), (("a", "a", 1), ("a", "c", 1), ("a", "b", 2))):
            self.bent("cuts", cuts, style)

    def test_the_letters_of_breaks(self):
        for sign in LETTERS:
            self.taken("breaks", ((sign, "m", 1),))
            self.taken("breaks", (("m", sign, 1),))
        for sign in tuple(set(WORD_CHARACTERS + OTHERS) - set(LETTERS)) + ("", "ab"):
            self.bent("breaks", ((sign, "m", 1),))
            self.bent("breaks", (("m", sign, 1),))

    def test_the_prices_of_breaks(self):
        for price in (0, 1, 999):
            self.taken("breaks", (("a", "b", price),))
        for price in (-1, 1000):
            self.bent("breaks", (("a", "b", price),))

    def test_breaks_ascend(self):
        self.taken("breaks", (("a", "a", 9), ("a", "b", 0), ("b", "a", 5)))
        for breaks in ((("a", "b", 1), ("a", "a", 1)), (("b", "a", 1), ("a", "b", 1)), (("a", "a", 1), ("a", "a", 1)),
                       (("a", "a", 1), ("a", "a", 2)), (("a", "a", 1), ("c", "a", 1), ("b", "a", 2))):
            self.bent("breaks", breaks)

    def test_prices(self):
        for at in range(5):
            for price in (0, 1, 999):
                self.taken("prices", (0,) * at + (price,) + (0,) * (4 - at))
            for price in (-1, 1000, "0", ()):
                self.bent("prices", (0,) * at + (price,) + (0,) * (4 - at))

    def test_two_bent_parts(self):
        bent = (5, 41, 0, (("a", 4),), (("a", "b", 3),), (("a", "b", 1000),), (0, 0, 0, 0))
        for at, part in enumerate(PARTS):
            for later in PARTS[at + 1:]:
                style = with_part(PLAIN, part, bent[at])
                self.refused(with_part(style, later, bent[PARTS.index(later)]), part)
        self.refused(bent, "measure")
        # Without the width of a, the cut is bent, too; but widths come first.
        self.refused(with_part(RICH, "widths", (("z", 1),)), "widths")
        self.refused(with_part(RICH, "widths", ()), "cuts")


if __name__ == "__main__":
    unittest.main()
