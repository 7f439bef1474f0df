"""Strips: rows of signs, and what of them is covered [19].

Within the program a strip has a third part, its trace: for each piece of a struck word that stands in it, a tuple of
the unit at which it begins, its width, the mark of the struck word, and the numbers of the partings at which the piece
begins and ends. (They are not the places of these partings, which words of one shape need not have in common.) Where a
strip is told, its trace is left out.
"""

from hushedpages.shapes import signs_between

COVER = "#"
BLANK = " "


def piece_strip(style, word, struck, first, last):
    """The strip of the piece of a word between two partings, counted from 1; 0 for no parting.

    Struck is 0 for a word that is not struck, and the mark of a struck word, which is 1 if it has no other one.
    """
    signs = signs_between(style, word, first, last)
    if struck == 0:
        return plain_strip(signs)
    return signs, COVER * len(signs), ((0, len(signs), struck, first, last),)


def word_strip(style, word, struck):
    """The strip of a whole word."""
    return piece_strip(style, word, struck, 0, 0)


def plain_strip(signs):
    """The strip of signs that belong to no struck word."""
    return signs, BLANK * len(signs), ()


def blank_strip(width):
    """A strip in which nothing stands."""
    return plain_strip(BLANK * width)


def joined(strips):
    """The strip of some strips side by side."""
    traces = []
    left = 0
    for signs, _, trace in strips:
        traces.extend([(left + at, width, struck, first, last) for at, width, struck, first, last in trace])
        left += len(signs)
    return "".join([strip[0] for strip in strips]), "".join([strip[1] for strip in strips]), tuple(traces)


def placed(strip, left, width):
    """A strip of this width in which another one stands, with so many blanks on its left."""
    return joined([blank_strip(left), strip, blank_strip(width - left - len(strip[0]))])


def bare(strips):
    """Strips as they are told, without their traces."""
    return tuple([strip[:2] for strip in strips])
