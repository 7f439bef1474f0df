"""Fillings, the family of a book, and first stems [15]."""

import itertools
import unittest

from hushedpages.errors import NoStem, TooMany
from hushedpages.families import family, filling_of, first_stems
from hushedpages.joint import shapes_of, stem_with

SIGNS = "0123456789abcdefghijklmnopqrstuvwxyz"
PLAIN = (12, 3, 1, (), (), (), (0, 0, 0, 0, 0))
# Under both of these together, all characters have different widths.
WIDE = PLAIN[:3] + ((("b", 2), ("c", 3), ("e", 2), ("f", 3), ("h", 2), ("i", 3)),) + PLAIN[4:]
WIDER = PLAIN[:3] + ((("d", 2), ("e", 2), ("f", 2), ("g", 3), ("h", 3), ("i", 3)),) + PLAIN[4:]
STYLES = (WIDE, WIDER)


def secret(name, signs, *more):
    """A secret with one shape for each of these characters, at most nine."""
    return (name, 1, ((signs,),) + more, ("",))


def many_shapes(name):
    """A secret with more than 64 shapes."""
    return (name, 1, (("abcdefghi",) * 8,), ("",))


EIGHT = secret("eight", "abcdefgh")
NINE = secret("nine", "abcdefghi")
FIVE = secret("five", "abcde")
THIRTEEN = secret("thirteen", "abcdefghi", ("i", "fghi"))
FOUR = (secret("two", "ab"), secret("three", "abc"), secret("one", "a"), secret("four", "adgi"))


class FamiliesTest(unittest.TestCase):
    def refused(self, error, call, *given):
        with self.assertRaises(error) as caught:
            call(*given)
        return vars(caught.exception)

    def test_numbers_of_shapes(self):
        for many, told in ((8, EIGHT), (9, NINE), (5, FIVE), (13, THIRTEEN)):
            self.assertEqual(len(shapes_of(STYLES, told)), many)

    def test_all_fillings_ascending(self):
        self.assertEqual(family((FIVE,), STYLES), ((0,), (1,), (2,), (3,), (4,)))
        self.assertEqual(family((FIVE,), (PLAIN,)), ((0,),))
        self.assertEqual(family(FOUR, STYLES), tuple(itertools.product(range(2), range(3), range(1), range(4))))
        self.assertEqual(family(FOUR, (WIDE,)), tuple(itertools.product(range(2), range(3), range(1), range(2))))

    def test_64_and_65_fillings(self):
        self.assertEqual(family((EIGHT, ("other",) + EIGHT[1:]), STYLES),
                         tuple(itertools.product(range(8), range(8))))
        for book in ((FIVE, THIRTEEN), (THIRTEEN, FIVE), (secret("one", "a"), FIVE, THIRTEEN), (EIGHT, NINE)):
            for call, given in ((family, ()), (first_stems, ((0,) * len(book),)), (filling_of, (("",) * len(book),))):
                self.assertEqual(self.refused(TooMany, call, book, STYLES, *given), {"part": "fillings"})

    def test_shapes_go_ahead_of_fillings(self):
        for book in ((EIGHT, NINE, many_shapes("last")), (many_shapes("first"), EIGHT, NINE), (many_shapes("alone"),)):
            for call, given in ((family, ()), (first_stems, ((0,) * len(book),)), (filling_of, (("",) * len(book),))):
                self.assertEqual(self.refused(TooMany, call, book, STYLES, *given), {"part": "shapes"})

    def test_first_stems(self):
        # The first one in the order of the stock, not the least one.
        book = (secret("who", "hi", ("z", "ab"), ("ad",)), secret("when", "abc"))
        shapes = [shapes_of((WIDE,), told) for told in book]
        self.assertEqual([[many for _, many in told] for told in shapes], [[2, 2, 2], [1, 1, 1]])
        self.assertEqual(first_stems(book, (WIDE,), (0, 0)), ("a", "a"))
        self.assertEqual(first_stems(book, (WIDE,), (1, 2)), ("h", "c"))
        self.assertEqual(first_stems(book, (WIDE,), (2, 1)), ("i", "b"))
        for filling in family(book, (WIDE,)):
            self.assertEqual(first_stems(book, (WIDE,), filling),
                             tuple(stem_with((WIDE,), told, shape, 0) for told, shape in zip(book, filling)))

    def test_fillings_of_stems(self):
        book = (secret("who", "hi", ("z", "ab")), secret("when", "abc"))
        for stems in itertools.product(("h", "i", "za", "zb"), "abc"):
            filling = filling_of(book, (WIDE,), stems)
            self.assertIn(filling, family(book, (WIDE,)))
            self.assertEqual(filling_of(book, (WIDE,), first_stems(book, (WIDE,), filling)), filling)
        self.assertEqual(filling_of(book, (WIDE,), ("za", "c")), (0, 2))
        self.assertEqual(filling_of(book, (WIDE,), ("zb", "a")), (1, 0))

    def test_the_first_string_that_is_no_stem(self):
        book = (secret("who", "hi"), secret("when", "abc"))
        for stems, stem in ((("a", "a"), "a"), (("h", "h"), "h"), (("x", "y"), "x"), (("", "a"), ""), (("hi", ""), "hi"),
                            (("i", ""), "")):
            self.assertEqual(self.refused(NoStem, filling_of, book, STYLES, stems), {"stem": stem})

    def test_very_many_stems(self):
        book = (("who", 2, ((SIGNS,) * 8,), ("", "s")), ("when", 2, ((SIGNS,) * 7, ("a",)), ("",)))
        style = PLAIN[:3] + ((("m", 2),),) + PLAIN[4:]
        self.assertEqual(family(book, (PLAIN,) * 4), ((0, 0), (0, 1)))
        self.assertEqual(first_stems(book, (PLAIN,) * 4, (0, 1)), ("00000000", "0000000"))
        self.assertEqual(filling_of(book, (PLAIN,), ("zzzzzzzz", "a")), (0, 0))
        self.assertEqual(len(family(book[:1] + (("x", 1, (("am", "am"),), ("",)),), (style,))), 27)
        self.assertEqual(first_stems(book[:1], (style,), (2,)), ("000000mm",))


if __name__ == "__main__":
    unittest.main()
