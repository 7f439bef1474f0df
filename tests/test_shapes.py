"""Signs and widths of pieces of words, partings, and shapes [12]."""

import itertools
import unittest

from hushedpages.shapes import piece_width, shape_of, signs_of

PLAIN = (12, 3, 1, (), (), (), (0, 0, 0, 0, 0))
STYLE = (12, 3, 1, (("1", 2), ("m", 2), ("w", 3)), (("m", "a", 1), ("w", "a", 2), ("w", "m", 1), ("w", "w", 2)),
         (("a", "n", 5), ("m", "m", 0), ("w", "a", 7)), (0, 0, 0, 0, 0))


def style_with(widths=(), cuts=(), breaks=()):
    return PLAIN[:3] + (tuple(widths), tuple(cuts), tuple(breaks)) + PLAIN[6:]


class ShapesTest(unittest.TestCase):
    def test_signs_of_whole_words(self):
        for word, signs in (("abc", "abc"), ("m", "m_"), ("w", "w__"), ("ma", "ma"), ("am", "am_"), ("wa", "wa"),
                            ("wm", "w_m_"), ("ww", "ww__"), ("wwa", "wwa"), ("wb", "w__b"), ("1m.", "1_m_."), ("mb", "m_b"),
                            ("aw", "aw__")):
            self.assertEqual(signs_of(STYLE, word, 0, len(word)), signs, word)
            self.assertEqual(signs_of(PLAIN, word, 0, len(word)), word)

    def test_signs_of_pieces(self):
        for first, behind, signs in ((0, 1, "m_-"), (0, 2, "ma-"), (0, 4, "mana"), (1, 2, "a-"), (2, 4, "na"), (3, 4, "a"),
                                     (1, 3, "an-")):
            self.assertEqual(signs_of(STYLE, "mana", first, behind), signs)

    def test_a_cut_needs_both_characters_in_the_piece(self):
        self.assertEqual(signs_of(STYLE, "wawa", 0, 3), "waw__-")
        self.assertEqual(signs_of(STYLE, "wawa", 2, 3), "w__-")
        self.assertEqual(signs_of(STYLE, "wawa", 2, 4), "wa")
        self.assertEqual(signs_of(STYLE, "wwwm", 1, 3), "ww__-")

    def test_a_hyphen_has_width_1_and_is_not_cut(self):
        style = style_with(widths=((".", 3), ("a", 2)), cuts=((".", "a", 1), ("a", ".", 1)))
        self.assertEqual(signs_of(style, ".a.", 0, 1), ".__-")
        self.assertEqual(signs_of(style, ".a.", 0, 2), "._a_-")
        self.assertEqual(signs_of(style, ".a.", 0, 3), "._a.__")

    def test_shapes_without_partings(self):
        for word, width in (("a", 1), ("m", 2), ("w", 3), ("abcd", 4), ("mm", 4), ("an", 2), ("", 0), ("m" * 3, 6)):
            self.assertEqual(shape_of(STYLE, word), (width, ()), word)
        self.assertEqual(shape_of(PLAIN, "banana"), (6, ()))
        self.assertEqual(shape_of(PLAIN, "a" * 16), (16, ()))

    def test_the_shape_of_the_document(self):
        style = style_with((("m", 2),), (("m", "a", 1),), (("a", "n", 5),))
        self.assertEqual(shape_of(style, "mana"), (4, ((3, 2, 5),)))

    def test_partings_at_the_second_and_the_last_but_one_place(self):
        style = style_with(breaks=(("a", "a", 3),))
        for many in range(4):
            self.assertEqual(shape_of(style, "a" * many), (many, ()))
        self.assertEqual(shape_of(style, "aaaa"), (4, ((3, 2, 3),)))
        self.assertEqual(shape_of(style, "aaaaa"), (5, ((3, 3, 3), (4, 2, 3))))
        # At most one character ahead, or behind, is too few.
        style = style_with(breaks=(("a", "b", 3),))
        for word, partings in (("abxx", ()), ("xabx", ((3, 2, 3),)), ("xxab", ()), ("abxxab", ()), ("xabxx", ((3, 3, 3),)),
                               ("xxabx", ((4, 2, 3),)), ("xabxabx", ((3, 5, 3), (6, 2, 3))), ("xbax", ())):
            self.assertEqual(shape_of(style, word), (len(word), partings), word)

    def test_partings_with_wide_characters(self):
        # The cut of the two characters at a parting is saved in neither piece.
        self.assertEqual(shape_of(STYLE, "mwam"), (2 + 1 + 1 + 2, ((2 + 3 + 1, 1 + 2, 7),)))
        self.assertEqual(shape_of(STYLE, "ammamma"), (9, ((4, 6, 0), (8, 2, 0))))

    def test_prices_of_partings(self):
        style = style_with(breaks=(("a", "b", 0), ("b", "c", 999), ("c", "d", 12)))
        self.assertEqual(shape_of(style, "xabcdx"), (6, ((3, 4, 0), (4, 3, 999), (5, 2, 12))))

    def test_many_rows(self):
        letters = "abcdefghijklmnopqrstuvwxyz"
        widths = [(sign, 2 + (at & 1)) for at, sign in enumerate(letters)]
        cuts = [(a, b, 1) for a in letters for b in letters if a != b]
        breaks = [(a, b, 26 * i + j) for i, a in enumerate(letters) for j, b in enumerate(letters) if (i + j) & 1]
        style = style_with(widths, cuts, breaks)
        for a, b in itertools.product(letters, letters):
            i, j = letters.index(a), letters.index(b)
            signs = a + "_" * (1 + (i & 1) - (a != b)) + b + "_" * (1 + (j & 1))
            self.assertEqual(signs_of(style, a + b, 0, 2), signs)
            told = tuple(price for _, _, price in shape_of(style, f"1{a}{b}1")[1])
            self.assertEqual(told, (26 * i + j,) if (i + j) & 1 else ())

    def test_piece_widths(self):
        shape = (20, ((4, 18, 0), (9, 14, 3), (16, 6, 1)))
        for first, last, width in ((0, 0, 20), (0, 1, 4), (0, 2, 9), (0, 3, 16), (1, 0, 18), (2, 0, 14), (3, 0, 6),
                                   (1, 2, 7), (1, 3, 14), (2, 3, 10)):
            self.assertEqual(piece_width(shape, first, last), width)
        self.assertEqual(piece_width((3, ()), 0, 0), 3)

    def test_widths_are_the_numbers_of_signs(self):
        breaks = {(a, b): price for a, b, price in STYLE[5]}
        for signs in itertools.product("amnw", repeat=6):
            word = "".join(signs)
            shape = shape_of(STYLE, word)
            places = [at for at in range(2, 5) if (word[at - 1], word[at]) in breaks]
            self.assertEqual([price for _, _, price in shape[1]], [breaks[word[at - 1], word[at]] for at in places])
            ends = [0, *places]
            for first, last in itertools.product(range(len(ends)), range(len(ends))):
                if last == 0 or first < last:
                    piece = signs_of(STYLE, word, ends[first], ends[last] if last else len(word))
                    self.assertEqual(piece_width(shape, first, last), len(piece), (word, first, last))


if __name__ == "__main__":
    unittest.main()
