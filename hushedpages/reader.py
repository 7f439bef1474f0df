"""Pages of a style are read back as words [30]."""

from hushedpages.runs import FRAME
from hushedpages.shapes import FILLER, HYPHEN
from hushedpages.sheets import BETWEEN_COLUMNS, FOOT
from hushedpages.strips import BLANK

# The head strip and the blank strip below it.
HEAD_ROWS = 2


def read_back(style, pages):
    """The words of the text, of the notes and of the captions on pages of a style."""
    text = []
    notes = []
    captions = []
    for page in pages:
        for rows in _columns_of(style, page):
            figures_end = _end_of_figures(rows)
            text_end = _end_of_text(rows, figures_end)
            captions.extend([row for row in rows[:figures_end] if not _consists_of(row, FRAME)])
            text.extend(rows[figures_end:text_end])
            notes.extend(rows[text_end + 1:])
    return _words_of(text), _words_of(notes), _words_of(captions)


def _columns_of(style, page):
    """The rows of each column of a page, from left to right."""
    measure = style[0]
    lefts = [number * (measure + BETWEEN_COLUMNS) for number in range(style[2])]
    return [[row[left:left + measure] for row in page[HEAD_ROWS:]] for left in lefts]


def _end_of_figures(rows):
    """The end of the rows of a column that belong to figures."""
    end = 0
    for at, row in enumerate(rows):
        if _consists_of(row, FRAME):
            end = at + 1
    return end


def _end_of_text(rows, first):
    """The end of the rows of a column, from one on, that belong to the text."""
    for at in range(first, len(rows)):
        if _consists_of(rows[at], FOOT):
            return at
    return len(rows)


def _consists_of(row, sign):
    """Whether a row consists of one sign alone."""
    return row == sign * len(row)


def _words_of(rows):
    """The words of a stream of rows."""
    words = []
    # The beginning of a word that is to be joined with what comes next, None if there is none.
    begun = None
    for row in rows:
        parts = _parts_of(row)
        if len(parts) > 0:
            if begun is not None:
                parts[0] = begun + parts[0]
                begun = None
            if parts[-1].endswith(HYPHEN):
                begun = parts.pop()[:-1]
            words.extend(parts)
    if begun is not None:
        words.append(begun)
    return tuple(words)


def _parts_of(row):
    """The parts of a row, without those of which nothing is left."""
    parts = [part.replace(FILLER, "") for part in row.split(BLANK)]
    return [part for part in parts if part != ""]
