"""Sheets: what stands where on the pages of a record that is set with its settled numbers [26], [27]."""

from hushedpages.numbers import at_rest
from hushedpages.pieces import struck_of
from hushedpages.strips import COVER, bare, blank_strip, joined, placed, plain_strip, word_strip

FOOT = "~"
BETWEEN_COLUMNS = 2


def settled(filled, style):
    """The sheets of a filled record, its settled numbers, and its rings."""
    pages, numbers, rings = at_rest(filled, style)
    return tuple([bare(strips) for strips in traced_sheets(pages)]), numbers, rings


def print_of(sheets):
    """The signs of sheets."""
    return tuple([tuple([strip[0] for strip in page]) for page in sheets])


def look_of(sheets):
    """The signs of sheets, with a cover in the place of each covered cell."""
    return tuple([tuple([_covered(strip[0], strip[1]) for strip in page]) for page in sheets])


def traced_sheets(pages):
    """The sheets of the pages of a record, with traces."""
    columns = [_column_strips(pages, begin, end) for begin, end in zip(pages.columns, pages.columns[1:])]
    many = pages.style[2]
    return tuple([_sheet(pages, number, columns[(number - 1) * many:number * many])
                  for number in range(1, pages.many + 1)])


def _covered(signs, cover):
    """The signs of a strip, with a cover in the place of each covered cell."""
    if COVER not in cover:
        return signs
    return "".join([COVER if over == COVER else sign for sign, over in zip(signs, cover)])


def _sheet(pages, number, columns):
    """The page of this number, with these columns of strips."""
    measure, depth, many = pages.style[:3]
    width = many * measure + BETWEEN_COLUMNS * (many - 1)
    strips = [_head_strip(pages, number, width), blank_strip(width)]
    for row in range(depth):
        parts = []
        for column in columns:
            if len(parts) > 0:
                parts.append(blank_strip(BETWEEN_COLUMNS))
            parts.append(column[row])
        strips.append(placed(joined(parts), 0, width))
    return tuple(strips)


def _head_strip(pages, number, width):
    """The head strip of the page of this number: first words of a heading on the left, the number on the right."""
    told = word_strip(pages.style, str(number), 0)
    if len(told[0]) > width:
        told = blank_strip(0)
    room = width - len(told[0])
    # At least one blank unit stands ahead of the page's number.
    words = _heading_words(pages, number, room - 1 if len(told[0]) > 0 else room)
    return joined([placed(words, 0, room), told])


def _heading_words(pages, number, room):
    """The strip of as many first words as have room of the last heading that begins on this page or ahead of it."""
    row = blank_strip(0)
    for piece in _last_heading(pages, number):
        word = word_strip(pages.style, piece[1], struck_of(piece))
        longer = joined([row, blank_strip(1), word]) if len(row[0]) > 0 else word
        if len(longer[0]) > room:
            return row
        row = longer
    return row


def _last_heading(pages, number):
    """The pieces of the last heading whose first row stands on the page of this number or ahead of it, () if none."""
    last = ()
    for at, block in enumerate(pages.filled):
        if block[0] == "head" and pages.head_page(at) <= number:
            last = block[1]
    return last


def _column_strips(pages, begin, end):
    """The strips of the column between two states, from top to bottom."""
    measure, depth = pages.style[:2]
    flow = pages.flow
    strips = []
    for _, figure in flow.figures[begin[1]:end[1]]:
        strips.extend(figure)
    foot = []
    for entry in _held_entries(flow, begin[0], end[0]):
        if entry is None:
            strips.append(blank_strip(measure))
        else:
            strips.append(entry[0])
            for number in entry[1]:
                foot.extend(flow.notes[number - 1])
    if len(foot) > 0:
        foot = [plain_strip(FOOT * measure)] + foot
    return strips + [blank_strip(measure)] * (depth - len(strips) - len(foot)) + foot


def _held_entries(flow, first, behind):
    """The entries that a column holds, from the first one up to, not including, the one behind it."""
    # Entries end with a row; so a gap at the end of a column stands directly ahead of an entry of the next one.
    if first < behind and flow.entries[behind - 1] is None:
        return flow.entries[first:behind - 1]
    return flow.entries[first:behind]
