"""The file of pages: the least of the shortest commands [29]."""

import heapq
import itertools
import random
import unittest

from hushedpages.device import drawn
from hushedpages.files import file_of


def least_commands(page):
    """The least of the shortest commands for one page: of all beginnings of commands, the shortest and least first."""
    width, height = len(page[0]), len(page)
    blank = (" " * width,) * height
    seen = set()
    waiting = [(0, "", blank, 0, 0)]
    while True:
        _, commands, now, row, column = heapq.heappop(waiting)
        if (now, row, column) in seen:
            continue
        seen.add((now, row, column))
        if row > height:
            return commands
        for command, after, next_row, next_column in moves(now, row, column, width, height, page):
            # What was left behind, and what stands ahead in this row, cannot be changed later.
            if next_row <= height and (after[:next_row] != page[:next_row] or
                                       after[next_row:next_row + 1] and
                                       after[next_row][:next_column] != page[next_row][:next_column]):
                continue
            if next_row > height and after != page:
                continue
            told = commands + command
            heapq.heappush(waiting, (len(told), told, after, next_row, next_column))


def moves(now, row, column, width, height, page):
    """All commands that can be done, with the page behind each, and the place of the device; row height + 1 is the end."""
    yield ";", now, height + 1, 0
    if row == height:
        return
    cells = now[row]

    def with_row(signs):
        return now[:row] + (cells[:column] + signs + cells[column + len(signs):],) + now[row + 1:]

    for many in range(1, width - column + 1):
        count = str(many) if many > 1 else ""
        yield count + ">", now, row, column + many
        yield count + "#", with_row("#" * many), row, column + many
        signs = page[row][column:column + many]
        yield '"' + signs + '"', with_row(signs), row, column + many
    for many in range(1, height - row + 1):
        count = str(many) if many > 1 else ""
        yield count + "/", now, row + many, 0
        if row > 0 and column == 0:
            yield count + "^", now[:row] + (now[row - 1],) * many + now[row + many:], row + many, 0


class FilesTest(unittest.TestCase):
    def check(self, page, commands):
        """One page alone, and several of them."""
        width, height = len(page[0]), len(page)
        self.assertEqual(file_of((page,)), (width, height, commands))
        self.assertEqual(file_of((page,) * 3), (width, height, commands * 3))
        self.assertEqual(drawn((width, height, commands)), (page,))

    def test_no_pages(self):
        self.assertEqual(file_of(()), (0, 0, ""))

    def test_the_page_of_the_document(self):
        self.check(("ab ", "###"), '"ab"/3#;')

    def test_blank_pages(self):
        for width, height in ((1, 1), (5, 1), (1, 5), (200, 200)):
            self.check((" " * width,) * height, ";")

    def test_pages_of_one_cell(self):
        for sign, commands in ((" ", ";"), ("#", "#;"), ("a", '"a";'), ("~", '"~";'), (";", '";";'), ("/", '"/";')):
            self.check((sign,), commands)

    def test_runs_of_covers_and_blanks(self):
        for row, commands in (("# ", "#;"), ("##", "##;"), ("###", "3#;"), (" #", ">#;"), ("  #", "2>#;"), ("   #", "3>#;"),
                              ("#" * 9, "9#;"), ("#" * 11, "11#;"), (" " * 9 + "#", "9>#;"), (" " * 100 + "#", "100>#;"),
                              ("#" * 99, "99#;"), ("#" * 200, "200#;"), ("# #", "#>#;"), ("## ##", "##>##;"),
                              ("#   #  ", "#3>#;")):
            self.check((row,), commands)

    def test_blanks_ahead_of_signs(self):
        for row, commands in ((" a", '" a";'), ("  a", '"  a";'), ("   a", '3>"a";'), ("    a", '4>"a";'), ("a b", '"a b";'),
                              ("a    b", '"a    b";'), ("a     b", '"a"5>"b";'), ("a###b", '"a###b";'),
                              ("a######b", '"a"6#"b";')):
            self.check((row,), commands)

    def test_rows_that_are_alike(self):
        self.check(("ab", "ab"), '"ab"/^;')
        self.check(("ab",) * 12, '"ab"/11^;')
        self.check(("ab", "ab", "  ", "ab"), '"ab"/^/"ab";')
        self.check(("#",) * 200, "#/199^;")
        self.check(("a", " ", " ", "a"), '"a"3/"a";')

    def test_of_several_shortest_commands_the_least(self):
        for page, commands, others in (
                ((" ", " ", "#"), "//#;", ("2/#;", "/^#;")), ((" ",) * 3 + ("#",), "3/#;", ("/2^#;", "//^#;")),
                (("  #",), "2>#;", (">>#;",)), (("##",), "##;", ("2#;",)), (("#", "#"), "#/#;", ("#/^;",)),
                (("#" * 10,), "#9#;", ("10#;", "9##;")), (("   a",), '3>"a";', ('"   a";',)),
                (("a    b",), '"a    b";', ('"a"4>"b";',))):
            self.check(page, commands)
            for other in others:
                self.assertGreaterEqual((len(other), other), (len(commands), commands))
                self.assertEqual(drawn((len(page[0]), len(page), other)), (page,))

    def test_small_pages_against_all_commands(self):
        for signs, sizes in (("# ", ((1, 4), (2, 3), (3, 2), (5, 1))), ("#a ", ((4, 1), (2, 2), (1, 3))), ("a ", ((3, 2), (6, 1)))):
            for width, height in sizes:
                rows = ["".join(row) for row in itertools.product(signs, repeat=width)]
                for page in itertools.product(rows, repeat=height):
                    self.assertEqual(file_of((page,)), (width, height, least_commands(page)))

    def test_random_pages_against_all_commands(self):
        dice = random.Random(29)
        for _ in range(150):
            width, height = dice.randrange(1, 15), dice.randrange(1, 5)
            page = random_page(dice, width, height)
            self.assertEqual(file_of((page,)), (width, height, least_commands(page)), page)

    def test_what_is_drawn_from_a_file_is_what_it_was_made_of(self):
        dice = random.Random(30)
        for _ in range(40):
            width, height = dice.choice((1, 7, 60, 200)), dice.choice((1, 5, 42, 200))
            pages = tuple(random_page(dice, width, height) for _ in range(dice.randrange(1, 4)))
            told = file_of(pages)
            self.assertEqual(told[:2], (width, height))
            self.assertEqual(drawn(told), pages)
            self.assertEqual(told[2], "".join(file_of((page,))[2] for page in pages))

    def test_all_characters(self):
        row = "".join(chr(code) for code in range(32, 127) if chr(code) != '"')
        self.check((row,), f'"{row}";')


def random_page(dice, width, height):
    """A page with runs of covers and of blanks, words, and rows that are alike."""
    rows = []
    while len(rows) < height:
        if rows and dice.random() < 0.3:
            rows.append(rows[-1])
        elif dice.random() < 0.2:
            rows.append(" " * width)
        else:
            row = ""
            while len(row) < width:
                row += dice.choice((" ", "#", "a", "!", "_")) * dice.choice((1, 1, 2, 3, 5, 11))
            rows.append(row[:width])
    return tuple(rows)


if __name__ == "__main__":
    unittest.main()
