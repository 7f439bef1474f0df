"""Strips: rows of signs, and what of them is covered [19]."""

COVER = "#"
BLANK = " "


def strip_of(signs, struck):
    """A strip of just these signs; struck tells whether they belong to a struck word."""
    return signs, (COVER if struck else BLANK) * len(signs)


def blank_strip(width):
    """A strip in which nothing stands."""
    return BLANK * width, BLANK * width


def joined(strips):
    """The strip of some strips side by side."""
    return "".join([signs for signs, _ in strips]), "".join([cover for _, cover in strips])


def placed(strip, left, width):
    """A strip of this width in which another one stands, with so many blanks on its left."""
    return joined([blank_strip(left), strip, blank_strip(width - left - len(strip[0]))])
