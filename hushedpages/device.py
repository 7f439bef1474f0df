"""The device that draws pages from a file [28]."""

from hushedpages.errors import BadFile
from hushedpages.strips import BLANK, COVER

QUOTE = '"'
DIGITS = "0123456789"
WITH_COUNT = ">#/^"
WITHOUT_COUNT = '";'
LONGEST_COUNT = 3


def drawn(file):
    """The pages that the device draws from a file."""
    return Device(file).all_pages()


class Device:
    """A device that draws the pages of a file: the pages so far, the rows of this page so far, and its column.

    The rows so far are those ahead of the device and its own one, which ends where the device is; at last it is a row
    that there is not, behind all rows of the page.
    """

    def __init__(self, file):
        self.width, self.height, self.commands = file
        self.done = []
        self.rows = [""]

    def all_pages(self):
        """All pages that are drawn."""
        at = 0
        while at < len(self.commands):
            at = self.obey(at)
        if self.rows != [""]:
            raise BadFile(at)
        return tuple(self.done)

    def obey(self, at):
        """Does the command that begins at this character; where the next one begins."""
        start = at
        while at < len(self.commands) and self.commands[at] in DIGITS:
            at += 1
        count = self.count_of(start, at)
        if at == len(self.commands):
            raise BadFile(start)
        name = self.commands[at]
        if name in WITHOUT_COUNT and at == start:
            return self.draw_quoted(at) if name == QUOTE else self.end_page(at)
        if name not in WITH_COUNT:
            raise BadFile(start)
        if name == "/":
            self.go_down([BLANK * self.width] * (count - 1), start)
        elif name == "^":
            self.repeat(count, start)
        else:
            self.draw((COVER if name == COVER else BLANK) * count, start)
        return at + 1

    def count_of(self, start, behind):
        """The count that stands from one character up to another one, 1 if there is none."""
        digits = self.commands[start:behind]
        if digits == "":
            return 1
        if len(digits) > LONGEST_COUNT or digits[0] == "0" or digits == "1":
            raise BadFile(start)
        return int(digits)

    def draw_quoted(self, at):
        """Draws the characters up to the next quote; where the next command begins."""
        behind = self.commands.find(QUOTE, at + 1)
        if behind <= at + 1:
            raise BadFile(at)
        self.draw(self.commands[at + 1:behind], at)
        return behind + 1

    def draw(self, signs, start):
        """Draws signs into the row of the device."""
        if len(self.rows) > self.height or len(self.rows[-1]) + len(signs) > self.width:
            raise BadFile(start)
        self.rows[-1] = self.rows[-1] + signs

    def go_down(self, rows, start):
        """Leaves the row of the device, and these rows behind it."""
        if len(self.rows) + len(rows) > self.height:
            raise BadFile(start)
        self.rows[-1] = self.rows[-1] + BLANK * (self.width - len(self.rows[-1]))
        self.rows.extend(rows + [""])

    def repeat(self, count, start):
        """Makes so many rows, from that of the device on, like the one above."""
        if len(self.rows) == 1 or self.rows[-1] != "":
            raise BadFile(start)
        row = self.rows[-2]
        if len(self.rows) + count - 1 > self.height:
            raise BadFile(start)
        self.rows = self.rows[:-1] + [row] * count + [""]

    def end_page(self, at):
        """Ends the page; where the next command begins."""
        rows = [row + BLANK * (self.width - len(row)) for row in self.rows[:self.height]]
        self.done.append(tuple(rows + [BLANK * self.width] * (self.height - len(rows))))
        self.rows = [""]
        return at + 1
