"""Stems and their numbers [14]."""

import itertools
import unittest

from hushedpages.stocks import place_in, stem_at, stems_many

SIGNS = "0123456789abcdefghijklmnopqrstuvwxyz"
STOCKS = (
    (("a",),),
    (("a", "n"), ("b", "o", "b")),
    (("ab", "xyz"), ("0",), ("cd", "xyz", "09")),
    (("b",), ("a",), ("0a", "0"), ("1b", "0"), (SIGNS, "ab", "z")),
    (("xyz", "xyz", "xyz", "0xyz"),),
    tuple((sign, "0123456789", "abc") for sign in "hgfedcba"),
)


def all_stems(stock):
    """All stems in order, one by one."""
    return ["".join(signs) for pattern in stock for signs in itertools.product(*pattern)]


class StocksTest(unittest.TestCase):
    def test_numbers_and_stems_of_small_stocks(self):
        for stock in STOCKS:
            stems = all_stems(stock)
            self.assertEqual(stems_many(stock), len(stems))
            self.assertEqual([stem_at(stock, k) for k in range(len(stems))], stems)
            self.assertEqual([place_in(stock, stem) for stem in stems], list(range(len(stems))))

    def test_patterns_in_order_and_stems_ascending(self):
        stock = (("b", "ab"), ("0a", "c"))
        self.assertEqual([stem_at(stock, k) for k in range(4)], ["ba", "bb", "0c", "ac"])
        for pattern in STOCKS[2]:
            stems = [stem_at((pattern,), k) for k in range(stems_many((pattern,)))]
            self.assertEqual(stems, sorted(stems))

    def test_strings_that_are_no_stems(self):
        for stock in STOCKS:
            stems = set(all_stems(stock))
            for many in range(4):
                for signs in itertools.product("abnoxyz0 _", repeat=many):
                    if "".join(signs) not in stems:
                        self.assertIsNone(place_in(stock, "".join(signs)))
        for string in ("", "an ", " an", "ann", "aN", "na", "bo", "bobb", "bob-", "anbob", "\u0430n"):
            self.assertIsNone(place_in(STOCKS[1], string))
        # A string of more characters than one is no character of a slot.
        self.assertIsNone(place_in((("abc",),), "ab"))
        self.assertIsNone(place_in((("abc",),), ""))

    def test_very_many_stems(self):
        stock = ((SIGNS,) * 8,)
        self.assertEqual(stems_many(stock), 36 ** 8)
        for k in (0, 1, 35, 36, 36 ** 4, 36 ** 7, 36 ** 8 - 1, 123456789012, 2000000000000):
            stem = stem_at(stock, k)
            self.assertEqual(int(stem, 36), k)
            self.assertEqual(place_in(stock, stem), k)
        self.assertEqual(stem_at(stock, 0), "00000000")
        self.assertEqual(stem_at(stock, 36 ** 8 - 1), "zzzzzzzz")
        self.assertIsNone(place_in(stock, "zzzzzzz"))
        self.assertIsNone(place_in(stock, "zzzzzzzzz"))
        self.assertIsNone(place_in(stock, "zzzz.zzz"))

    def test_very_many_stems_of_several_patterns(self):
        half, other = SIGNS[:18], SIGNS[18:]
        stock = ((half,) + (SIGNS,) * 7, (SIGNS,) * 7, ("z",) + (SIGNS,) * 7, ("k", other) + (SIGNS,) * 6, (SIGNS,) * 3)
        ends = (18 * 36 ** 7, 19 * 36 ** 7, 20 * 36 ** 7, 20 * 36 ** 7 + 18 * 36 ** 6, 20 * 36 ** 7 + 18 * 36 ** 6 + 36 ** 3)
        self.assertEqual(stems_many(stock), ends[-1])
        told = (("00000000", "hzzzzzzz"), ("0000000", "zzzzzzz"), ("z0000000", "zzzzzzzz"), ("ki000000", "kzzzzzzz"),
                ("000", "zzz"))
        for begin, end, (first, last) in zip((0,) + ends, ends, told):
            self.assertEqual((stem_at(stock, begin), stem_at(stock, end - 1)), (first, last))
            self.assertEqual((place_in(stock, first), place_in(stock, last)), (begin, end - 1))
        for k in range(0, ends[-1], ends[-1] // 997):
            self.assertEqual(place_in(stock, stem_at(stock, k)), k)
        self.assertIsNone(place_in(stock, "i0000000"))
        self.assertIsNone(place_in(stock, "kh000000"))


if __name__ == "__main__":
    unittest.main()
