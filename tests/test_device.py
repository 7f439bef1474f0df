"""The device: what it draws from a file, and which commands it cannot do [28]."""

import random
import unittest

from hushedpages.device import drawn
from hushedpages.errors import BadFile


class DeviceTest(unittest.TestCase):
    def check(self, width, height, commands, *pages):
        self.assertEqual(drawn((width, height, commands)), tuple(tuple(page) for page in pages))

    def refused(self, width, height, commands, at):
        with self.assertRaises(BadFile, msg=commands) as caught:
            drawn((width, height, commands))
        self.assertEqual(caught.exception.at, at, commands)

    def test_empty_commands(self):
        self.check(0, 0, "")
        self.check(5, 7, "")

    def test_pages_that_end(self):
        self.check(3, 2, ";", ("   ", "   "))
        self.check(1, 1, ";;", (" ",), (" ",))
        self.check(3, 2, "#;>#;", ("#  ", "   "), (" # ", "   "))

    def test_each_command(self):
        self.check(4, 1, ">#;", (" #  ",))
        self.check(4, 1, '"a#b";', ("a#b ",))
        self.check(4, 1, '>"a b";', (" a b",))
        self.check(4, 3, "#/>#/##;", ("#   ", " #  ", "##  "))
        self.check(4, 3, '"ab"/^^;', ("ab  ", "ab  ", "ab  "))
        self.check(4, 3, "/^#;", ("    ", "    ", "#   "))

    def test_each_command_with_a_count(self):
        self.check(4, 1, "2>2#;", ("  ##",))
        self.check(200, 1, "100>100#;", (" " * 100 + "#" * 100,))
        self.check(4, 4, "#2/#;", ("#   ", "    ", "#   ", "    "))
        self.check(4, 4, "#/3^;", ("#   ",) * 4)
        self.check(4, 4, "#/2^#;", ("#   ",) * 4)
        self.check(4, 5, '"a"/2^/#;', ("a   ", "a   ", "a   ", "    ", "#   "))
        self.check(1, 200, "#/199^;", ("#",) * 200)

    def test_counts_of_a_wrong_form(self):
        for count in ("0", "1", "00", "01", "02", "002", "1000", "0002", "9999", "10000"):
            for name in ">#/^":
                self.refused(200, 200, f"#/{count}{name};", 2)
            self.refused(200, 200, f">>{count};", 2)
            self.refused(200, 200, f">>{count}", 2)

    def test_a_count_ahead_of_what_has_none(self):
        for rest in ('"a";', ";", "x;", " >;", "", "-", "A"):
            self.refused(200, 200, "2" + rest, 0)
            self.refused(200, 200, "#99" + rest, 1)

    def test_characters_that_are_no_command(self):
        for sign in "ax.-_ A~!@$&'()*+,:<=?[]{}|`\\" + chr(37):
            self.refused(9, 9, sign + ";", 0)
            self.refused(9, 9, "##" + sign, 2)
            self.refused(9, 9, ";" + sign, 1)

    def test_quotes(self):
        self.refused(9, 9, '"', 0)
        self.refused(9, 9, '#"abc;', 1)
        self.refused(9, 9, '"";', 0)
        self.refused(9, 9, '>"a""";', 4)
        self.check(9, 1, '"a""b";', ("ab       ",))
        self.check(9, 1, '" ;/^ ";', (" ;/^     ",))

    def test_the_right_end_of_a_row(self):
        self.check(3, 1, "3#;", ("###",))
        self.check(3, 2, "3>/3#;", ("   ", "###"))
        for commands, at in (("4#;", 0), ("###>;", 3), ("3##;", 2), ('3#"a";', 2), ('"abcd";', 0), ('>"abc";', 1), (">3>;", 1),
                             ("3#2/", 2), ("999>;", 0)):
            self.refused(3, 1, commands, at)

    def test_the_row_behind_the_last_one(self):
        self.check(3, 2, "#/#/;", ("#  ", "#  "))
        self.check(3, 2, "2/;", ("   ", "   "))
        self.check(3, 2, "#/^;", ("#  ", "#  "))
        for ahead in ("#/#/", "2/", "#/^"):
            for command in (">", "#", '"a"', "/", "^", "2/", "2^", "3>"):
                self.refused(3, 2, f"{ahead}{command};", len(ahead))
        for commands, at in (("3/;", 0), ("/2/;", 1), ("#/2^;", 2), ("#2/^;", 3), ("999/;", 0), ("/999^;", 1)):
            self.refused(3, 2, commands, at)

    def test_a_row_like_the_one_above(self):
        for commands, at in (("^;", 0), ("2^;", 0), (";^;", 1), ("#^;", 1), ("#/>^;", 3), ("#/#2^;", 3), ('#/"a"^;', 5)):
            self.refused(3, 5, commands, at)

    def test_commands_that_end_amid_a_page(self):
        for commands in ("#", ">", "3#", '"ab"', "/", "2/", "/^", ";#", "#;/", '#/^;">;"'):
            self.refused(3, 3, commands, len(commands))

    def test_the_first_of_several_wrong_commands(self):
        self.refused(3, 3, "#x9", 1)
        self.refused(3, 3, '4#""', 0)
        self.refused(3, 3, '#"";x', 1)
        self.refused(3, 3, ";;^", 2)

    def test_random_commands_one_by_one(self):
        dice = random.Random(28)
        right = 0
        for _ in range(4000):
            width, height = dice.randrange(1, 5), dice.randrange(1, 4)
            commands = "".join(dice.choice(('"', '"ab"', "#", ">", "/", "^", ";", "2", "3", "a", "1", "#/", "^;", "0"))
                               for _ in range(dice.randrange(1, 7)))
            told = one_by_one(width, height, commands)
            if isinstance(told, int):
                self.refused(width, height, commands, told)
            else:
                right += 1
                self.assertEqual(drawn((width, height, commands)), told, commands)
        self.assertGreater(right, 50)


def one_by_one(width, height, commands):
    """The pages, or the number of the first character of the command that cannot be done; with one cell at a time."""
    pages = []
    page = [[" "] * width for _ in range(height)]
    row = column = at = 0
    amid = False
    while at < len(commands):
        start = at
        while at < len(commands) and commands[at].isdigit():
            at += 1
        digits = commands[start:at]
        if digits and (len(digits) > 3 or digits[0] == "0" or digits == "1"):
            return start
        name = commands[at:at + 1]
        many = int(digits or "1")
        at += 1
        if name == ";" and not digits:
            pages.append(tuple("".join(cells) for cells in page))
            page = [[" "] * width for _ in range(height)]
            row = column = 0
            amid = False
            continue
        amid = True
        signs = name * many
        if name == '"':
            end = commands.find('"', at)
            signs = commands[at:end] if end > 0 else ""
            if digits or not signs:
                return start
            at = end + 1
        elif name not in ("#", ">", "/", "^"):
            return start
        if name in ('"', "#", ">"):
            for sign in signs:
                if row == height or column == width:
                    return start
                page[row][column] = " " if name == ">" else sign
                column += 1
        for _ in range(many if name in ("/", "^") else 0):
            if row == height or name == "^" and (column > 0 or row == 0):
                return start
            if name == "^":
                page[row] = list(page[row - 1])
            row, column = row + 1, 0
    return len(commands) if amid else tuple(pages)


if __name__ == "__main__":
    unittest.main()
