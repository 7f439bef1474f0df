"""The pages of a record that is set with some numbers of pages [25]."""

from hushedpages.columns import least_columns
from hushedpages.flows import Flow, stack_of


class Pages:
    """On which pages the entries, figures and labels of a filled record are, set with these numbers of pages.

    Columns are the states at which the columns begin and end, and many is the number of pages.
    """

    def __init__(self, filled, style, numbers):
        self.filled = filled
        self.style = style
        self.flow = Flow(filled, style, numbers)
        self.columns = least_columns(style[1], style[6][4], stack_of(self.flow.parts()))
        self.many = 0
        self.entry_pages = []
        self.figure_pages = []
        for number, (begin, end) in enumerate(zip(self.columns, self.columns[1:])):
            self.many = number // style[2] + 1
            self.entry_pages.extend([self.many] * (end[0] - begin[0]))
            self.figure_pages.extend([self.many] * (end[1] - begin[1]))

    def label_page(self, label):
        """The page of a label."""
        at = self.filled.index(("label", label))
        while self.filled[at][0] == "label":
            at += 1
        if self.filled[at][0] == "figure":
            return self.figure_pages[len([block for block in self.filled[:at] if block[0] == "figure"])]
        row = self.flow.row_from(at)
        return self.many if row is None else self.entry_pages[row]

    def head_page(self, at):
        """The page of the first row of the heading that is block number at."""
        return self.entry_pages[self.flow.firsts[at]]

    def key_pages(self, word):
        """The pages on which keys of a word begin, ascending, each once."""
        return tuple(sorted({self.entry_pages[row] for told, row in self.flow.key_rows if told == word}))
