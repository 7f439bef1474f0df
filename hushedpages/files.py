"""The file of pages: the least of the shortest commands from which a device draws them [29].

Whatever stands ahead, the commands behind a place are the least of the shortest ones from there. So they are told
from the end on, for each place of a row, and for each row of a page.
"""

from hushedpages.device import QUOTE
from hushedpages.strips import BLANK, COVER


def file_of(pages):
    """The file of pages."""
    if len(pages) == 0:
        return 0, 0, ""
    writer = Writer()
    return len(pages[0][0]), len(pages[0]), "".join([writer.page_commands(page) for page in pages])


class Writer:
    """Writes pages; the commands of rows and pages that were written before are kept."""

    def __init__(self):
        self.rows = {}
        self.pages = {}

    def page_commands(self, page):
        """The commands that draw a page and end it."""
        if page not in self.pages:
            self.pages[page] = _page_commands(page, [self.row_commands(row) for row in page])
        return self.pages[page]

    def row_commands(self, row):
        """The commands that draw a row up to its last cell that is not blank."""
        if row not in self.rows:
            self.rows[row] = _row_commands(row.rstrip(BLANK))
        return self.rows[row]


def _page_commands(page, drawing):
    """The commands that draw a page and end it; drawing has for each row the commands that draw it."""
    height = len(page)
    blank = [drawing[at] == "" for at in range(height)]
    least = {height: ";"}
    for at in reversed(range(height)):
        # Each way on: its first commands, and the row to which they lead.
        ways = [(name + "^", end) for name, end in _counted(at, _repeated_until(page, at))]
        ways.extend([(drawing[at] + name + "/", end) for name, end in _counted(at, _blank_until(blank, at + 1))])
        if all(blank[at + 1:]):
            ways.append((drawing[at] + ";", None))
        least[at] = _least_way_on(ways, least)
    return least[0]


def _repeated_until(page, at):
    """The end of the run of rows from one on that are all like the row above."""
    end = at
    while 0 < end < len(page) and page[end] == page[end - 1]:
        end += 1
    return end


def _blank_until(blank, at):
    """The end of the run of blank rows from one on."""
    while at < len(blank) and blank[at]:
        at += 1
    return at


def _row_commands(cells):
    """The least of the shortest commands that draw cells, of which the last one is not blank."""
    many = len(cells)
    least = {many: ""}
    # The same for a device that draws characters up to a quote.
    quoted = {many: QUOTE}
    for at in reversed(range(many)):
        ways = [(QUOTE + cells[at] + quoted[at + 1], None)]
        for sign, name in ((BLANK, ">"), (COVER, COVER)):
            if cells[at] == sign:
                ways.extend([(count + name, end) for count, end in _counted(at, _same_until(cells, at))])
        least[at] = _least_way_on(ways, least)
        quoted[at] = min([QUOTE + least[at], cells[at] + quoted[at + 1]], key=_by_length)
    return least[0]


def _same_until(cells, at):
    """The end of the run of equal cells from one on."""
    end = at
    while end < len(cells) and cells[end] == cells[at]:
        end += 1
    return end


def _counted(at, last):
    """The counts that lead from a place to each later one up to the last one, as written, and these places."""
    return [("" if end == at + 1 else str(end - at), end) for end in range(at + 1, last + 1)]


def _least_way_on(ways, least):
    """The least of the shortest commands: first commands, and the least ones from the place to which they lead."""
    lengths = [len(first) + (0 if end is None else len(least[end])) for first, end in ways]
    shortest = min(lengths)
    return min([first if end is None else first + least[end]
                for (first, end), length in zip(ways, lengths) if length == shortest])


def _by_length(commands):
    """What commands are compared by: the shorter ones, of equally short ones the least string."""
    return len(commands), commands
