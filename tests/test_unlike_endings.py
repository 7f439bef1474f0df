"""The stems of each joint shape where the endings have unlike lengths, the empty one among them [12], [14]."""

import random
import unittest

from hushedpages.errors import NoStem, TooMany
from hushedpages.families import family, filling_of, first_stems
from hushedpages.joint import joint_shape, place_with, shapes_of, stem_with
from hushedpages.stocks import stem_at, stems_many

ENDINGS = (",", "a", "b", "'s", "ab", "ba", "mab", "b.am")
LETTERS = "abm"


def random_style(dice):
    """Letters of different widths and cuts; several pairs of letters can be parted, all at one price or two."""
    widths = {sign: dice.choice((2, 2, 3)) for sign in LETTERS if dice.random() < 0.5}
    cuts = [(a, b, dice.randrange(1, widths[a])) for a in sorted(widths) for b in "'," + LETTERS if dice.random() < 0.2]
    prices = dice.choice(((9,), (9,), (9,), (0, 9)))
    breaks = [(a, b, dice.choice(prices)) for a in LETTERS for b in LETTERS if dice.random() < 0.4]
    return (12, 5, 1, tuple(sorted(widths.items())), tuple(cuts), tuple(breaks), (0, 0, 0, 0, 0))


def random_secret(dice):
    """One or two patterns, each of its own length; two or three endings, the empty one among them."""
    stock = []
    for length in dice.sample((2, 3, 4, 5, 6), dice.randrange(1, 3)):
        sizes = [dice.choice((1, 2, 2, 3, 3)) for _ in range(length)]
        stock.append(tuple("".join(sorted(dice.sample(LETTERS, size))) for size in sizes))
    endings = dice.sample(ENDINGS, dice.randrange(1, 3)) + [""]
    dice.shuffle(endings)
    return ("anna", dice.randrange(1, 9), tuple(stock), tuple(endings))


def sorted_one_by_one(styles, secret):
    """The stems of each joint shape, in the order of the stock, by going through all of them."""
    found = {}
    for number in range(stems_many(secret[2])):
        stem = stem_at(secret[2], number)
        found.setdefault(joint_shape(styles, secret, stem), []).append(stem)
    return found


class UnlikeEndingsTest(unittest.TestCase):
    def check(self, styles, secret):
        found = sorted_one_by_one(styles, secret)
        if len(found) > 64:
            with self.assertRaises(TooMany):
                shapes_of(styles, secret)
            return
        self.assertEqual(shapes_of(styles, secret), tuple((shape, len(found[shape])) for shape in sorted(found)))
        for number, shape in list(enumerate(sorted(found)))[::len(found) // 8 + 1]:
            for k in sorted({0, len(found[shape]) // 2, len(found[shape]) - 1}):
                stem = found[shape][k]
                self.assertEqual(stem_with(styles, secret, number, k), stem)
                self.assertEqual(place_with(styles, secret, stem), (number, k))
        with self.assertRaises(NoStem):
            place_with(styles, secret, "no")

    def test_four_stems_of_four_shapes(self):
        styles = ((12, 5, 1, (("m", 2),), (), (("b", "m", 9), ("m", "b", 9)), (0, 0, 0, 0, 0)),)
        secret = ("anna", 5, (("b", "am", "b", "am"),), ("", ","))
        shapes = ((((4, ()), (5, ())),), (((5, ()), (6, ((4, 3, 9),))),),
                  (((5, ((4, 2, 9),)), (6, ((4, 3, 9),))),), (((6, ((4, 3, 9),)), (7, ((4, 4, 9), (5, 3, 9)))),))
        stems = ("baba", "babm", "bmba", "bmbm")
        self.assertEqual(tuple(joint_shape(styles, secret, stem) for stem in stems), shapes)
        self.assertEqual(shapes_of(styles, secret), tuple((shape, 1) for shape in shapes))
        book = (secret,)
        self.assertEqual(family(book, styles), ((0,), (1,), (2,), (3,)))
        for number, stem in enumerate(stems):
            self.assertEqual(stem_with(styles, secret, number, 0), stem)
            self.assertEqual(place_with(styles, secret, stem), (number, 0))
            self.assertEqual(first_stems(book, styles, (number,)), (stem,))
            self.assertEqual(filling_of(book, styles, (stem,)), (number,))

    def test_all_endings_have_a_character(self):
        # Then each place within the stem parts all words, however unlike the endings are.
        style = (12, 5, 1, (("m", 2),), (), (("b", "m", 9), ("m", "b", 9)), (0, 0, 0, 0, 0))
        secret = ("anna", 1, (("b", "am", "b", "am"),), (",", "ab"))
        self.check((style,), secret)
        self.assertEqual([many for _, many in shapes_of((style,), secret)], [1, 2, 1])

    def test_many_small_stocks_one_by_one(self):
        dice = random.Random(12)
        for _ in range(200):
            styles = tuple(random_style(dice) for _ in range(dice.choice((1, 1, 2))))
            self.check(styles, random_secret(dice))


if __name__ == "__main__":
    unittest.main()
