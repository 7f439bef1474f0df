"""Curtains: steps from looks to looks, which cover more and more [32]."""

from hushedpages.errors import BadStep, TooMany
from hushedpages.kinds import is_whole
from hushedpages.strips import BLANK, COVER

MOST_STEPS = 6

# The least and the greatest number of each step that has one, and the steps that have none.
BOUNDS = {"wide": (1, 20), "even": (2, 20), "keep": (1, 20)}
PLAIN = ("rows", "blocks", "pages", "below", "all")


class Curtains:
    """The curtains of some steps, one behind the other."""

    def __init__(self, steps):
        if len(steps) > MOST_STEPS:
            raise TooMany("steps")
        for at, step in enumerate(steps):
            if not _is_step(step):
                raise BadStep(at)
        self.drawn_steps = steps

    @property
    def steps(self):
        """The tuple of the steps."""
        return self.drawn_steps

    def __call__(self, look):
        """The row of looks of a look: itself, what each step makes of the one ahead, and at last nothing."""
        row = [look]
        for step in self.drawn_steps:
            row.append(draw(step, row[-1]))
        return tuple(row + [()])


def draw(step, look):
    """What a right step makes of a look."""
    name = step[0]
    if name == "wide":
        return tuple([tuple([_wide_row(row, step[1]) for row in page]) for page in look])
    if name == "even":
        return tuple([tuple([_even_row(row, step[1]) for row in page]) for page in look])
    if name == "rows":
        return tuple([tuple([_whole(row) if COVER in row else row for row in page]) for page in look])
    if name == "blocks":
        return tuple([_blocks_page(page) for page in look])
    if name == "pages":
        return tuple([_whole_page(page) if _has_cover(page) else page for page in look])
    if name == "below":
        return _below(look)
    if name == "all":
        return tuple([_whole_page(page) for page in look])
    return look[:step[1]]


def _is_step(step):
    """Whether a tuple of strings and integers is a step."""
    if len(step) == 1:
        return step[0] in PLAIN
    if len(step) != 2 or not isinstance(step[0], str) or step[0] not in BOUNDS:
        return False
    least, most = BOUNDS[step[0]]
    return is_whole(step[1], least, most)


def _whole(row):
    """The row, covered whole."""
    return COVER * len(row)


def _whole_page(page):
    """The page, covered whole."""
    return tuple([_whole(row) for row in page])


def _has_cover(page):
    """Whether a page has a covered cell."""
    return any([COVER in row for row in page])


def _wide_row(row, distance):
    """The row with each cell covered that is at most this far from a covered one."""
    return "".join([COVER if COVER in row[max(0, at - distance):at + distance + 1] else sign
                    for at, sign in enumerate(row)])


def _even_row(row, measure):
    """The row with each run of covered cells made longer until the measure goes into its length, or the row ends."""
    cells = []
    run = 0
    for sign in row:
        if sign == COVER or run > 0 and run < measure:
            run = run + 1 if run < measure else 1
            cells.append(COVER)
        else:
            run = 0
            cells.append(sign)
    return "".join(cells)


def _blocks_page(page):
    """The page with each run of rows that are not blank covered whole if one of its cells is covered."""
    rows = []
    run = []
    for row in page:
        if row == BLANK * len(row):
            rows.extend(_block(run) + [row])
            run = []
        else:
            run.append(row)
    return tuple(rows + _block(run))


def _block(rows):
    """The rows of a run, covered whole if one of their cells is covered."""
    return [_whole(row) for row in rows] if _has_cover(rows) else rows


def _below(look):
    """The look with all rows covered whole from the first row on that has a covered cell."""
    pages = []
    begun = False
    for page in look:
        rows = []
        for row in page:
            begun = begun or COVER in row
            rows.append(_whole(row) if begun else row)
        pages.append(tuple(rows))
    return tuple(pages)
