"""Curtains: what each step makes of a look, and the row of looks [32]."""

import random
import unittest

from hushedpages.curtains import Curtains, draw
from hushedpages.errors import BadStep, TooMany

STEPS = (("wide", 1), ("wide", 3), ("wide", 20), ("even", 2), ("even", 3), ("even", 20), ("rows",), ("blocks",), ("pages",),
         ("below",), ("all",), ("keep", 1), ("keep", 2), ("keep", 20))


def row_by_row(step, look):
    """What the document tells of a step, cell by cell."""
    name = step[0]
    if name == "keep":
        return look[:step[1]]
    pages = [[list(row) for row in page] for page in look]
    covered = {(p, r, c) for p, page in enumerate(look) for r, row in enumerate(page) for c, sign in enumerate(row) if sign == "#"}
    begun = min(((p, r) for p, r, _ in covered), default=None)
    for p, page in enumerate(look):
        for r, row in enumerate(page):
            block = [r]
            while block[0] > 0 and page[block[0] - 1].strip(" "):
                block.insert(0, block[0] - 1)
            while block[-1] + 1 < len(page) and page[block[-1] + 1].strip(" "):
                block.append(block[-1] + 1)
            for c in range(len(row)):
                if (name == "wide" and any((p, r, other) in covered for other in range(c - step[1], c + step[1] + 1))
                        or name == "rows" and any((p, r, other) in covered for other in range(len(row)))
                        or name == "blocks" and row.strip(" ") and any((p, other, at) in covered for other in block
                                                                       for at in range(len(row)))
                        or name == "pages" and any(found == p for found, _, _ in covered)
                        or name == "below" and begun is not None and (p, r) >= begun
                        or name == "all"):
                    pages[p][r][c] = "#"
    if name == "even":
        for page in pages:
            for row in page:
                at = 0
                while at < len(row):
                    end = at
                    while end < len(row) and (row[end] == "#" or (end - at) % step[1] > 0):
                        row[end] = "#"
                        end += 1
                    at = end + 1
    return tuple(tuple("".join(row) for row in page) for page in pages)


class CurtainsTest(unittest.TestCase):
    def draw(self, step, *rows):
        """What a step makes of a page with these rows."""
        page, = draw(step, (rows,))
        return page

    def test_looks_without_covers_and_with_all(self):
        for look in ((), ((" ",),), (("ab ", "   "), ("c  ", "   "))):
            for step in STEPS:
                expected = {"all": tuple(tuple("#" * len(row) for row in page) for page in look),
                            "keep": look[:step[-1]] if step[0] == "keep" else None}.get(step[0], look)
                self.assertEqual(draw(step, look), expected)
        look = (("###", "###"), ("###", "###"))
        for step in STEPS:
            self.assertEqual(draw(step, look), look[:1] if step == ("keep", 1) else look)

    def test_wide(self):
        self.assertEqual(self.draw(("wide", 1), "a#b   "), ("###   ",))
        self.assertEqual(self.draw(("wide", 2), "a#b   "), ("####  ",))
        self.assertEqual(self.draw(("wide", 20), "a#b" + " " * 30), ("#" * 22 + " " * 11,))
        # At both ends of a row, and where runs meet.
        self.assertEqual(self.draw(("wide", 1), "#ab", "ab#", "#a#", "a  "), ("##b", "a##", "###", "a  "))
        self.assertEqual(self.draw(("wide", 2), "abc#     #    #"), ("a#####" + " " + "########",))
        self.assertEqual(self.draw(("wide", 1), "# ab #"), ("##ab##",))

    def test_even(self):
        self.assertEqual(draw(("even", 2), (("a# b###",),)), (("a##b###",),))
        self.assertEqual(self.draw(("even", 3), "#ab#", "ab#", "####", "##aaaaa"), ("####", "ab#", "####", "###aaaa"))
        # What a run meets on its way belongs to it.
        self.assertEqual(self.draw(("even", 4), "#a#aaa"), ("####aa",))
        self.assertEqual(self.draw(("even", 4), "##a##aaaaa"), ("########aa",))
        self.assertEqual(self.draw(("even", 2), "#a#aaa"), ("####aa",))
        self.assertEqual(self.draw(("even", 2), "aa##aa"), ("aa##aa",))
        self.assertEqual(self.draw(("even", 20), "a#" + "b" * 30), ("a" + "#" * 20 + "b" * 11,))

    def test_rows(self):
        self.assertEqual(self.draw(("rows",), "a#b", "abc", "###", "   ", "  #"), ("###", "abc", "###", "   ", "###"))

    def test_blocks(self):
        self.assertEqual(self.draw(("blocks",), "abc", "a#c", "  a", "   ", "bcd", "   ", "#  ", "   ", "   "),
                         ("###", "###", "###", "   ", "bcd", "   ", "###", "   ", "   "))
        self.assertEqual(self.draw(("blocks",), "abc", "   ", "a  ", "b  ", "c #"), ("abc", "   ", "###", "###", "###"))
        # A run ends with its page.
        self.assertEqual(draw(("blocks",), (("a", "b"), ("c", "#"), ("d", " "))), (("a", "b"), ("#", "#"), ("d", " ")))

    def test_pages(self):
        self.assertEqual(draw(("pages",), (("a", " "), (" ", "#"), ("c", "d"))), (("a", " "), ("#", "#"), ("c", "d")))

    def test_below(self):
        self.assertEqual(draw(("below",), (("ab", " c"), ("d ", " #"), ("e ", "  "))), (("ab", " c"), ("d ", "##"), ("##", "##")))
        self.assertEqual(draw(("below",), (("#b", " c"), ("d ", "e ")))[1], ("##", "##"))
        self.assertEqual(draw(("below",), (("a",), ("b",))), (("a",), ("b",)))

    def test_all(self):
        self.assertEqual(draw(("all",), (("ab", "  "), ("# ", "##"))), (("##", "##"),) * 2)
        self.assertEqual(draw(("all",), ()), ())

    def test_keep(self):
        look = (("a",), ("#",), ("c",))
        for many in (1, 2, 3, 4, 20):
            self.assertEqual(draw(("keep", many), look), look[:many])

    def test_random_looks_cell_by_cell(self):
        dice = random.Random(32)
        for _ in range(150):
            width, height = dice.randrange(1, 25), dice.randrange(1, 6)
            signs = dice.choice(("# a", "#     ", "aaaa#", "# ", "a b   "))
            look = tuple(tuple(" " * width if dice.random() < 0.2 else "".join(dice.choice(signs) for _ in range(width))
                               for _ in range(height)) for _ in range(dice.randrange(4)))
            for step in STEPS:
                self.assertEqual(draw(step, look), row_by_row(step, look), (step, look))

    def test_the_row_of_looks(self):
        look = (("a# ", "b  ", "   "), ("c  ", "   ", "   "))
        self.assertEqual(Curtains(())(look), (look, ()))
        rows = (("###", "b  ", "   "), look[1])
        blocks = (("###", "###", "   "), look[1])
        self.assertEqual(Curtains((("rows",), ("keep", 1)))(look), (look, rows, rows[:1], ()))
        self.assertEqual(Curtains((("wide", 1), ("blocks",), ("keep", 2)))(look), (look, rows, blocks, blocks, ()))
        self.assertEqual(Curtains((("keep", 1),) * 6)(look), (look,) + (look[:1],) * 6 + ((),))
        self.assertEqual(Curtains(())(()), ((), ()))

    def test_each_level_hangs_on_the_one_ahead_of_it(self):
        dice = random.Random(33)
        for _ in range(40):
            steps = tuple(dice.choice(STEPS) for _ in range(dice.randrange(7)))
            look = tuple(tuple("".join(dice.choice("# a") for _ in range(6)) for _ in range(3)) for _ in range(2))
            curtains = Curtains(steps)
            row = curtains(look)
            self.assertEqual(len(row), len(steps) + 2)
            self.assertEqual((row[0], row[-1]), (look, ()))
            for step, told, after in zip(steps, row, row[1:]):
                self.assertEqual(draw(step, told), after)
            self.assertEqual(curtains(look), row)

    def test_the_property(self):
        for steps in ((), (("all",),), (("wide", 20), ("even", 2), ("rows",))):
            self.assertEqual(Curtains(steps).steps, steps)
        self.assertIsInstance(Curtains.steps, property)

    def refused(self, steps, at):
        with self.assertRaises(BadStep, msg=steps) as caught:
            Curtains(steps)
        self.assertEqual(caught.exception.at, at)

    def test_steps_that_are_none(self):
        wrong = (("wide",), ("even",), ("keep",), ("rows", 1), ("all", 1), ("blocks", 1), ("pages", 2), ("below", 20), ("wide", 0),
                 ("wide", 21), ("wide", -1), ("even", 1), ("even", 21), ("even", 0), ("keep", 0), ("keep", 21), ("wide", "1"),
                 ("wide", 1, 1), ("none",), (), ("",), ("Rows",), (1,), (1, "wide"), ("wide", 1, "x"), ("rows", "x"), ("row",))
        for step in wrong:
            self.refused((step,), 0)
            self.refused((("all",), ("wide", 20), step, ("none",)), 2)
        for step in STEPS:
            Curtains((step,))

    def test_six_and_seven_steps(self):
        self.assertEqual(len(Curtains((("all",),) * 6)((("a",),))), 8)
        for steps in ((("all",),) * 7, (("none",),) * 7, ((),) * 9):
            with self.assertRaises(TooMany) as caught:
                Curtains(steps)
            self.assertEqual(caught.exception.part, "steps")
        self.refused((("all",),) * 5 + (("none",),), 5)


if __name__ == "__main__":
    unittest.main()
