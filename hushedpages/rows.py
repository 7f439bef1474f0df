"""Rows of words are set to a measure as strips [19]."""

from hushedpages.lines import least_lines
from hushedpages.shapes import shape_of
from hushedpages.strips import bare, blank_strip, joined, piece_strip, placed


def set_words(style, measure, words, ragged=False):
    """The strips of a row of words."""
    return bare(set_lines(style, measure, words, ragged)[0])


def set_lines(style, measure, words, ragged):
    """The strips of a row of words, with traces, and the positions at which its lines begin and end."""
    lines = least_lines(measure, style[6][0], tuple([shape_of(style, word) for word, _ in words]))
    strips = []
    for begin, end in zip(lines, lines[1:]):
        pieces = _pieces_of_line(style, words, begin, end)
        loose = ragged or end == lines[-1]
        strips.append(_line_strip(pieces, measure, loose))
    return tuple(strips), lines


def _pieces_of_line(style, words, begin, end):
    """The pieces of a line, as strips."""
    pieces = []
    for at in range(begin[0], end[0] + 1):
        if at < end[0] or end[1] > 0:
            word, struck = words[at]
            first = begin[1] if at == begin[0] else 0
            last = end[1] if at == end[0] else 0
            pieces.append(piece_strip(style, word, struck, first, last))
    return pieces


def _line_strip(pieces, measure, loose):
    """The strip of a line with these pieces; its gaps are as wide as it takes, but 1 unit each if it is loose."""
    gaps = len(pieces) - 1
    rest = 0 if loose else measure - sum([len(piece[0]) for piece in pieces]) - gaps
    row = [pieces[0]]
    for at, piece in enumerate(pieces[1:], start=1):
        row.append(blank_strip(1 + at * rest // gaps - (at - 1) * rest // gaps))
        row.append(piece)
    return placed(joined(row), 0, measure)
