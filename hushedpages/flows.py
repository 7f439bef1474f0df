"""Flows: the entries of a record that is set with some numbers of pages [22], and the prices of breaks [23]."""

from hushedpages.runs import Setter
from hushedpages.strips import bare


def flow_of(filled, style, numbers):
    """The flow of a filled record: its entries, the prices of breaks ahead of them, its figures and its notes."""
    return Flow(filled, style, numbers).parts()


def stack_of(flow):
    """The stack of a flow."""
    entries, prices, figures, notes = flow
    rows = []
    for entry, price in zip(entries, prices):
        if entry is None:
            rows.append((None, 0, 0))
        else:
            rows.append((price, 1, sum([len(notes[number - 1]) for number in entry[1]])))
    return tuple(rows), tuple([(len(strips), known) for known, strips in figures])


class Flow:
    """The flow of a filled record that is set with these numbers of pages, and what of the record stands where.

    Firsts tells for each block the number of its first row entry, None if it has no rows. Key_rows are pairs of
    the word of a key and the row entry in which it begins. Figures are pairs of a block's number and its strips.
    All strips here have traces.
    """

    def __init__(self, filled, style, numbers):
        self.style = style
        self.entries = []
        self.prices = []
        self.firsts = []
        self.key_rows = []
        self.figures = []
        setter = Setter(filled, style, numbers)
        kind_ahead = None
        for at, block in enumerate(filled):
            kind = block[0]
            runs = setter.runs_of(block)
            self.firsts.append(None if len(runs) == 0 else self.put_runs(kind, runs, kind_ahead))
            if len(runs) > 0:
                kind_ahead = kind
            if kind == "figure":
                self.figures.append((at, setter.figure_strips(block)))
        self.notes = tuple([setter.note_strips(number) for number in range(1, len(setter.noted) + 1)])

    def put_runs(self, kind, runs, kind_ahead):
        """Puts the runs of a block behind those of a block of another kind, None for the first ones: its first row."""
        if kind_ahead is not None:
            self.entries.append(None)
            self.prices.append(None)
        first = len(self.entries)
        for run in runs:
            for at, (strip, marks, begun) in enumerate(run):
                self.key_rows.extend([(word, len(self.entries)) for word in begun])
                self.entries.append((strip, marks))
                self.prices.append(self.price_within(kind, at, len(run)))
        if kind_ahead == "head":
            self.prices[first] = None
        return first

    def price_within(self, kind, at, many):
        """The price of a break ahead of strip number at of a run with so many strips in a block of this kind."""
        _, widow, orphan, split, _ = self.style[6]
        if at == 0:
            return 0
        if kind in ("head", "show"):
            return None
        if kind == "table":
            return split
        return (orphan if at == 1 else 0) + (widow if at == many - 1 else 0)

    def row_from(self, at):
        """The first row entry that comes from block number at or from one behind it, None if there is none."""
        for first in self.firsts[at:]:
            if first is not None:
                return first
        return None

    def parts(self):
        """The flow as it is told: its entries, the prices of breaks, its figures and its notes."""
        entries = [None if entry is None else (entry[0][:2], entry[1]) for entry in self.entries]
        figures = []
        for at, strips in self.figures:
            known = self.row_from(at)
            figures.append((len(entries) if known is None else known, bare(strips)))
        return tuple(entries), tuple(self.prices), tuple(figures), tuple([bare(strips) for strips in self.notes])
