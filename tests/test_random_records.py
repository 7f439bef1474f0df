"""Random records: what is made of them hangs on the shapes of the struck words alone [16], and fits everywhere."""

import random
import unittest

from hushedpages.blocks import record_of
from hushedpages.books import check_book, filled
from hushedpages.errors import TooTall, TooWide
from hushedpages.flows import flow_of, stack_of
from hushedpages.joint import shapes_of, stem_with
from hushedpages.numbers import first_numbers, found_numbers
from hushedpages.styles import check_style

BOOK = (("who", 1, (("an", "amn", "amo"), ("bw", "o", "ab", "bn")), ("", "s", "abba")), ("when", 1, (("0123", "0123456789"),), ("", "th")))
LABELS = ("x", "y", "z")


class Records:
    """Texts of random records."""

    def __init__(self, dice):
        self.dice = dice

    def word(self):
        return self.dice.choice(("a", "be", "man", "wow", "ananas", "rabbit", "12", "so,"))

    def pieces(self, kinds, most=7):
        return " ".join(self.piece(self.dice.choice(kinds)) for _ in range(self.dice.randrange(1, most)))

    def piece(self, kind):
        if kind == "hole":
            return self.dice.choice(("@hole{who}", "@hole{who}{1}", "@hole{who}{2}", "@hole{when}", "@hole{when}{1}"))
        if kind == "note":
            return "@note{" + self.pieces(("say", "hole", "page")) + "}"
        if kind == "page":
            return "@page{" + self.dice.choice(LABELS) + "}"
        return "@key{" + self.word() + "}" if kind == "key" else self.word()

    def prose(self):
        return self.pieces(("say", "say", "say", "hole", "note", "page", "key"), 20)

    def formula(self, depth=0):
        kinds = ("say", "hole") if depth == 2 else ("say", "hole", "over", "up", "low", "fence", "grid")
        return " ".join(self.part(self.dice.choice(kinds), depth + 1) for _ in range(self.dice.randrange(1, 3)))

    def part(self, kind, depth):
        if kind == "over":
            return "@over{" + self.formula(depth) + "}{" + self.formula(depth) + "}"
        if kind in ("up", "low", "fence"):
            return "@" + kind + "{" + self.formula(depth) + "}"
        if kind == "grid":
            lines, tracks = self.dice.randrange(1, 3), self.dice.randrange(1, 3)
            return "@grid{" + ("@line" + ("{" + self.formula(depth) + "}") * tracks) * lines + "}"
        return self.piece(kind)

    def table(self):
        rows = []
        for _ in range(self.dice.randrange(1, 4)):
            cells = [f"@cell{{{self.dice.randrange(1, 3)}}}{{{self.dice.choice(('', self.pieces(('say', 'hole', 'page'), 2)))}}}"
                     for _ in range(self.dice.randrange(1, 4))]
            rows.append("@row{" + " ".join(cells) + "}")
        return "@table{" + " ".join(rows) + "}"

    def block(self):
        kind = self.dice.choice(("head", "par", "par", "list", "table", "show", "figure", "contents", "index"))
        if kind == "head":
            return "@head{" + self.pieces(("say", "hole")) + "}"
        if kind == "par":
            return "@par{" + self.prose() + "}"
        if kind == "list":
            return "@list{" + "".join("@item{" + self.prose() + "}" for _ in range(self.dice.randrange(1, 3))) + "}"
        if kind == "table":
            return self.table()
        if kind == "show":
            return "@show{" + self.formula() + "}"
        if kind == "figure":
            return f"@figure{{{self.dice.randrange(1, 4)}}}{{{self.dice.choice(('', self.pieces(('say', 'hole'))))}}}"
        return "@" + kind

    def text(self):
        blocks = [self.block() for _ in range(self.dice.randrange(3, 9))]
        for label in LABELS:
            blocks.insert(self.dice.randrange(len(blocks)), "@label{" + label + "}")
        return " ".join(blocks)

    def style(self):
        dice = self.dice
        widths = {sign: dice.choice((2, 3)) for sign in "amnw1*" if dice.random() < 0.3}
        cuts = [(a, b, dice.randrange(1, widths[a])) for a in sorted(widths) for b in "abnow" if dice.random() < 0.3]
        breaks = [(a, b, dice.choice((0, 9))) for a in "abn" for b in "abn" if dice.random() < 0.4]
        style = (dice.randrange(18, 40), dice.randrange(9, 20), dice.randrange(1, 4), tuple(sorted(widths.items())), tuple(cuts),
                 tuple(breaks), tuple(dice.choice((0, 3, 50)) for _ in range(5)))
        check_style(style)
        return style


def covered(thing):
    """The same with a # in the place of each covered sign."""
    if isinstance(thing, tuple) and len(thing) == 2 and all(isinstance(part, str) for part in thing):
        return "".join("#" if cover == "#" else sign for sign, cover in zip(*thing)), thing[1]
    return tuple(covered(part) for part in thing) if isinstance(thing, tuple) else thing


class RandomRecordsTest(unittest.TestCase):
    def layouts(self, record, style, stems):
        """What is found for a record that is filled by stems, three times with the numbers found before."""
        told = []
        done = filled(record, BOOK, stems)
        numbers = first_numbers(done)
        self.assertEqual(numbers, first_numbers(record))
        for _ in range(3):
            try:
                flow = flow_of(done, style, numbers)
                found = found_numbers(done, style, numbers)
            except TooWide as e:
                return told + [("TooWide", e.part)]
            except TooTall:
                return told + ["TooTall"]
            self.check_flow(flow, style)
            self.check_numbers(numbers, found)
            told.append((covered(flow), found))
            numbers = found
        return told

    def check_flow(self, flow, style):
        entries, prices, figures, notes = flow
        strips = [entry[0] for entry in entries if entry] + [strip for _, told in figures for strip in told]
        strips += [strip for told in notes for strip in told]
        for signs, cover in strips:
            self.assertEqual((len(signs), len(cover)), (style[0], style[0]))
            self.assertTrue(all(sign != " " for sign, mark in zip(signs, cover) if mark == "#"))
        self.assertEqual(sorted(number for entry in entries if entry for number in entry[1]), list(range(1, len(notes) + 1)))
        rows, figures = stack_of(flow)
        self.assertEqual(len(rows), len(prices))
        self.assertNotIn((0, 0), [(row[1], later[1]) for row, later in zip(rows, rows[1:])])
        self.assertTrue(not rows or rows[0][:2] == (0, 1) and rows[-1][1] == 1)
        self.assertEqual([known for _, known in figures], sorted(known for _, known in figures))
        self.assertTrue(all(known == len(rows) or rows[known][1] == 1 for _, known in figures))

    def check_numbers(self, numbers, found):
        self.assertEqual([len(part) for part in numbers], [len(part) for part in found])
        self.assertEqual(list(found[1]), sorted(found[1]))
        for pages in found[2]:
            self.assertEqual(list(pages), sorted(set(pages)))
            self.assertGreater(len(pages), 0)

    def test_stems_of_one_shape(self):
        check_book(BOOK)
        dice = random.Random(16)
        records = Records(dice)
        compared = whole = 0
        for _ in range(150):
            record, style = record_of(records.text()), records.style()
            first, last = [], []
            for secret in BOOK:
                shapes = shapes_of((style,), secret)
                shape = dice.randrange(len(shapes))
                first.append(stem_with((style,), secret, shape, 0))
                last.append(stem_with((style,), secret, shape, shapes[shape][1] - 1))
            told = self.layouts(record, style, tuple(first))
            self.assertEqual(told, self.layouts(record, style, tuple(last)), (record, style, first, last))
            compared += first != last
            whole += len(told) == 3 and isinstance(told[-1], tuple) and told[-1][0] != "TooWide"
        self.assertGreater(compared, 100)
        self.assertGreater(whole, 50)


if __name__ == "__main__":
    unittest.main()
