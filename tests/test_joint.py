"""Joint shapes, and the stems of each of them [14]."""

import itertools
import random
import unittest
from math import comb

from hushedpages.errors import NoStem, TooMany
from hushedpages.joint import joint_shape, place_with, shapes_of, stem_with
from hushedpages.shapes import shape_of
from hushedpages.stocks import stem_at

SIGNS = "0123456789abcdefghijklmnopqrstuvwxyz"
ALL = ((SIGNS,) * 8,)
PLAIN = (12, 3, 1, (), (), (), (0, 0, 0, 0, 0))


def style_with(widths=(), cuts=(), breaks=()):
    return PLAIN[:3] + (tuple(widths), tuple(cuts), tuple(breaks)) + PLAIN[6:]


def secret_of(stock, endings=("",)):
    return ("who", 1, tuple(stock), tuple(endings))


def told(many, *shapes):
    """A joint shape under one style, with the shape for each ending, and its number of stems."""
    return (shapes,), many


def sorted_one_by_one(styles, secret):
    """The stems of each joint shape, in the order of the stock, by going through all of them."""
    found = {}
    for pattern in secret[2]:
        for signs in itertools.product(*pattern):
            stem = "".join(signs)
            shape = tuple(tuple(shape_of(style, stem + ending) for ending in secret[3]) for style in styles)
            found.setdefault(shape, []).append(stem)
    return found


def random_style(dice):
    signs = "abcn."
    widths = {sign: dice.choice((2, 3)) for sign in signs if dice.random() < 0.5}
    cuts = [(a, b, dice.randrange(1, widths[a])) for a in sorted(widths) for b in sorted(signs) if dice.random() < 0.3]
    breaks = [(a, b, dice.choice((0, 0, 7))) for a in "abcn" for b in "abcn" if dice.random() < 0.3]
    return style_with(sorted(widths.items()), cuts, breaks)


def random_stock(dice):
    """A stock in which no stem belongs to two patterns, as each pattern has its own length."""
    lengths = dice.sample(range(1, 6), dice.randrange(1, 4))
    return tuple(tuple("".join(sorted(dice.sample("abcn", dice.randrange(1, 4)))) for _ in range(length))
                 for length in lengths)


class JointTest(unittest.TestCase):
    def refused(self, error, call, *given):
        with self.assertRaises(error) as caught:
            call(*given)
        return vars(caught.exception)

    def check(self, styles, secret):
        """Compares everything with what is found by going through all stems; how many shapes there are."""
        found = sorted_one_by_one(styles, secret)
        if len(found) > 64:
            for call, given in ((shapes_of, ()), (stem_with, (0, 0)), (place_with, ("a",)), (place_with, ("no stem",))):
                self.assertEqual(self.refused(TooMany, call, styles, secret, *given), {"part": "shapes"})
            return len(found)
        self.assertEqual(shapes_of(styles, secret), tuple((shape, len(found[shape])) for shape in sorted(found)))
        for number, shape in list(enumerate(sorted(found)))[::len(found) // 6 + 1]:
            stems = found[shape]
            for k in sorted({0, len(stems) // 2, len(stems) - 1}):
                self.assertEqual(stem_with(styles, secret, number, k), stems[k])
                self.assertEqual(place_with(styles, secret, stems[k]), (number, k))
                self.assertEqual(joint_shape(styles, secret, stems[k]), shape)
        return len(found)

    def test_joint_shapes(self):
        wide = style_with((("m", 2),), (("m", "a", 1),), (("a", "n", 5),))
        secret = secret_of((("m", "a", "n", "a"),), ("", "s", "na"))
        shapes = ((4, ((3, 2, 5),)), (5, ((3, 3, 5),)), (6, ((3, 4, 5), (5, 2, 5))))
        plain = ((4, ()), (5, ()), (6, ()))
        self.assertEqual(joint_shape((wide,), secret, "mana"), (shapes,))
        self.assertEqual(joint_shape((PLAIN, wide, PLAIN), secret, "mana"), (plain, shapes, plain))
        self.assertEqual(joint_shape((PLAIN, wide), secret_of((("m",),)), "m"), (((1, ()),), ((2, ()),)))

    def test_small_stocks_one_by_one(self):
        dice = random.Random(14)
        many = []
        for _ in range(120):
            styles = tuple(random_style(dice) for _ in range(dice.randrange(1, 5)))
            endings = tuple(dice.sample(("", "a", "nb", ".", "can", "b.b"), dice.randrange(1, 4)))
            many.append(self.check(styles, secret_of(random_stock(dice), endings)))
        self.assertGreater(len([shapes for shapes in many if shapes > 64]), 5)
        self.assertGreater(len([shapes for shapes in many if 5 < shapes <= 64]), 50)

    def test_the_stock_of_the_document(self):
        secret = secret_of((("a", "n"), ("b", "o", "b")))
        self.assertEqual(shapes_of((PLAIN,), secret), (told(1, (2, ())), told(1, (3, ()))))
        self.assertEqual(place_with((PLAIN,), secret, "bob"), (1, 0))

    def test_shapes_ascend_and_stems_keep_the_order_of_the_stock(self):
        style = style_with((("m", 2),))
        secret = secret_of((("mn", "m", "z"), ("m", "am", "lmn")))
        self.assertEqual(shapes_of((style,), secret), (told(3, (4, ())), told(4, (5, ())), told(1, (6, ()))))
        rows = (("nmz", "mal", "man"), ("mmz", "mam", "mml", "mmn"), ("mmm",))
        for number, row in enumerate(rows):
            self.assertEqual(tuple(stem_with((style,), secret, number, k) for k in range(len(row))), row)
            self.assertEqual([place_with((style,), secret, stem) for stem in row], [(number, k) for k in range(len(row))])

    def test_a_cut_between_stem_and_ending(self):
        style = style_with((("a", 3),), (("a", "n", 2),))
        stock = (("x", "an"),)
        self.assertEqual(shapes_of((style,), secret_of(stock, ("", "n"))),
                         (told(1, (2, ()), (3, ())), told(1, (4, ()), (3, ()))))
        self.assertEqual(shapes_of((style,), secret_of(stock, ("n",))), (told(2, (3, ())),))
        self.assertEqual(shapes_of((style,), secret_of(stock, ("", "x"))),
                         (told(1, (2, ()), (3, ())), told(1, (4, ()), (5, ()))))

    def test_a_parting_between_stem_and_ending(self):
        style = style_with(breaks=(("a", "n", 5),))
        self.assertEqual(shapes_of((style,), secret_of((("x", "an"),), ("nx",))),
                         (told(1, (4, ())), told(1, (4, ((3, 2, 5),)))))
        # With only one character behind it, or ahead of it, there is no parting.
        self.assertEqual(shapes_of((style,), secret_of((("x", "an"),), ("n",))), (told(2, (3, ())),))
        self.assertEqual(shapes_of((style,), secret_of((("an",),), ("nx",))), (told(2, (3, ())),))

    def test_a_parting_of_the_stem_that_needs_the_ending(self):
        style = style_with(breaks=(("a", "n", 5),))
        stock = (("x", "an", "n"),)
        self.assertEqual(shapes_of((style,), secret_of(stock)), (told(2, (3, ())),))
        self.assertEqual(shapes_of((style,), secret_of(stock, ("", "."))),
                         (told(1, (3, ()), (4, ())), told(1, (3, ()), (4, ((3, 2, 5),)))))

    def test_partings_within_an_ending(self):
        style = style_with((("m", 2), ("w", 3)), (("w", "w", 2),), (("a", "n", 5), ("w", "w", 1)))
        narrow = ((6, ((3, 4, 5), (5, 2, 5))), (6, ((5, 4, 1),)), (1, ()))
        wide = ((7, ((4, 4, 5), (6, 2, 5))), (7, ((6, 4, 1),)), (2, ()))
        secret = secret_of((("lm",),), ("ananx", "wwx", ""))
        self.assertEqual(shapes_of((style,), secret), (told(1, *narrow), told(1, *wide)))

    def test_all_stems_under_one_style(self):
        secret = secret_of(ALL)
        self.assertEqual(shapes_of((PLAIN,), secret), (told(36 ** 8, (8, ())),))
        for k in (0, 1, 36 ** 5, 36 ** 8 - 1):
            self.assertEqual(stem_with((PLAIN,), secret, 0, k), stem_at(ALL, k))
            self.assertEqual(place_with((PLAIN,), secret, stem_at(ALL, k)), (0, k))
        style = style_with((("m", 2),))
        self.assertEqual(shapes_of((style,), secret),
                         tuple(told(comb(8, wide) * 35 ** (8 - wide), (8 + wide, ())) for wide in range(9)))
        for number, k, stem in ((1, 0, "0000000m"), (1, 1, "0000001m"), (1, 22, "000000m0"), (1, 8 * 35 ** 7 - 1, "zzzzzzzm"),
                                (8, 0, "mmmmmmmm"), (0, 35 ** 8 - 1, "zzzzzzzz"), (7, 0, "0mmmmmmm"), (7, 279, "zmmmmmmm")):
            self.assertEqual(stem_with((style,), secret, number, k), stem)
            self.assertEqual(place_with((style,), secret, stem), (number, k))

    def test_all_stems_under_four_styles(self):
        # At places 2 to 6 a stem can be parted where an a stands ahead of an n.
        styles = (PLAIN, style_with(breaks=(("a", "n", 5),)), style_with(breaks=(("a", "n", 0),)), style_with((), (), ()))
        places = [chosen for many in range(4) for chosen in itertools.combinations(range(2, 7), many)
                  if all(later - at > 1 for at, later in zip(chosen, chosen[1:]))]
        expected = {}
        for chosen in places:
            many = sum((-1) ** (len(more) - len(chosen)) * 36 ** (8 - 2 * len(more)) for more in places
                       if set(chosen) <= set(more))
            shapes = [(8, tuple((at + 1, 8 - at, price) for at in chosen)) for price in (5, 0)]
            expected[((8, ()),), (shapes[0],), (shapes[1],), ((8, ()),)] = many
        secret = secret_of(ALL)
        shapes = shapes_of(styles, secret)
        self.assertEqual(shapes, tuple((shape, expected[shape]) for shape in sorted(expected)))
        self.assertEqual(sum(many for _, many in shapes), 36 ** 8)
        dice = random.Random(8)
        for number, (shape, many) in enumerate(shapes):
            for k in (0, many - 1, dice.randrange(many)):
                stem = stem_with(styles, secret, number, k)
                self.assertEqual(joint_shape(styles, secret, stem), shape)
                self.assertEqual(place_with(styles, secret, stem), (number, k))

    def test_several_great_patterns(self):
        half, other = SIGNS[:18], SIGNS[18:]
        stock = ((half,) + (SIGNS,) * 7, (SIGNS,) * 7, ("z",) + (SIGNS,) * 7, ("k", other) + (SIGNS,) * 6)
        styles = (style_with((("m", 2), ("w", 2))), style_with((("m", 3), ("w", 3)), (("m", "w", 2), ("w", "m", 2))))
        secret = secret_of(stock, ("", "m"))
        shapes = shapes_of((styles[0],), secret)
        self.assertEqual(sum(many for _, many in shapes), sum((18 * 36 ** 7, 36 ** 7, 36 ** 7, 18 * 36 ** 6)))
        self.assertEqual([shape[0][0][0] for shape, _ in shapes], list(range(7, 16)))
        for styles in ((styles[0],), (styles[0], styles[0])):
            for number, (_, many) in enumerate(shapes):
                for k in (0, many // 3, many - 1):
                    stem = stem_with(styles, secret, number, k)
                    self.assertEqual(place_with(styles, secret, stem), (number, k))

    def test_signs_of_many_kinds(self):
        # Each character is cut in its own way, but in the end all shapes are the same.
        letters = SIGNS[10:]
        style = style_with([(sign, 2) for sign in SIGNS], [(a, b, 1) for a in SIGNS for b in SIGNS])
        self.assertEqual(shapes_of((style,), secret_of(ALL)), (told(36 ** 8, (9, ())),))
        style = style_with(breaks=[(a, b, 3) for a in letters for b in letters])
        self.assertEqual(len(shapes_of((style,), secret_of(ALL))), 21)

    def test_pairs_that_part_no_word_make_no_shapes(self):
        # Each pair of letters has a price of its own, but only one character stands ahead, or behind.
        letters = SIGNS[10:]
        style = style_with(breaks=[(a, b, 26 * i + j) for i, a in enumerate(letters) for j, b in enumerate(letters)])
        for pattern in ((letters, letters, "0", "0"), ("0", letters, letters)):
            self.assertEqual(shapes_of((style,), secret_of((pattern,))), (told(676, (len(pattern), ())),))
        for stock, endings in (((("0", letters, letters),), (".", "")), ((("0", letters, letters, "0"),), ("",)),
                               ((("0", letters),), ("", "ax"))):
            self.check((style,), secret_of(stock, endings))

    def test_64_and_65_shapes(self):
        # Under these four styles, no two characters have the same widths; 8 has the width 3 in the first style.
        styles = tuple(style_with([(sign, 1 + at // 3 ** place % 3) for at, sign in enumerate(SIGNS) if at // 3 ** place % 3])
                       for place in range(4))
        for many in (28, 29):
            for stock in (((SIGNS,), ("8", SIGNS[:many])), (("8", SIGNS[:many]), (SIGNS,)),
                          ((SIGNS[:18],), (SIGNS[18:],), ("8", SIGNS[:9]), ("8", SIGNS[9:many]))):
                secret = secret_of(stock)
                self.assertEqual(len(sorted_one_by_one(styles, secret)), 36 + many)
                self.check(styles, secret)
        # A stock of which each pattern alone has too many shapes.
        self.check(styles, secret_of(((SIGNS, "01234567"), ("a",))))
        for call, given in ((shapes_of, ()), (stem_with, (0, 0)), (place_with, ("",))):
            self.assertEqual(self.refused(TooMany, call, styles, secret_of(ALL), *given), {"part": "shapes"})

    def test_any_string_that_is_no_stem(self):
        secret = secret_of((("ab", "n"), ("b", "o", "b")), ("", "s"))
        for stem in ("", "a", "na", "bn ", "bns", "bobs", "bo", "bob-", "ann", " an", "Bn", "cn", "b_n"):
            self.assertEqual(self.refused(NoStem, place_with, (PLAIN,), secret, stem), {"stem": stem})

    def test_arguments_stay_and_results_are_equal(self):
        style, secret = style_with((("m", 2),)), secret_of((("am", "bm"),))
        first = shapes_of((style,), secret)
        stem_with((style,), secret, 0, 0)
        self.assertEqual(shapes_of((style,), secret), first)
        self.assertEqual(secret, secret_of((("am", "bm"),)))


if __name__ == "__main__":
    unittest.main()
