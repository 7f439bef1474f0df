"""Strips: rows of signs, and what of them is covered [19]."""

from hushedpages.shapes import signs_of

COVER = "#"
BLANK = " "


def piece_strip(style, word, struck, first, behind):
    """The strip of the piece of a word from place first up to, not including, place behind; struck is 1 or 0."""
    signs = signs_of(style, word, first, behind)
    return signs, (COVER if struck == 1 else BLANK) * len(signs)


def word_strip(style, word, struck):
    """The strip of a whole word; struck is 1 or 0."""
    return piece_strip(style, word, struck, 0, len(word))


def plain_strip(signs):
    """The strip of signs that belong to no struck word."""
    return signs, BLANK * len(signs)


def blank_strip(width):
    """A strip in which nothing stands."""
    return plain_strip(BLANK * width)


def joined(strips):
    """The strip of some strips side by side."""
    return "".join([signs for signs, _ in strips]), "".join([cover for _, cover in strips])


def placed(strip, left, width):
    """A strip of this width in which another one stands, with so many blanks on its left."""
    return joined([blank_strip(left), strip, blank_strip(width - left - len(strip[0]))])
