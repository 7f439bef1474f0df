"""Fillings, and the family of a book [15]."""

from hushedpages.errors import TooMany
from hushedpages.joint import Shaped

MOST_FILLINGS = 64


def family(book, styles):
    """The family of a book: all its fillings, ascending."""
    fillings = [()]
    for shaped in _all_shaped(book, styles):
        fillings = [filling + (shape,) for filling in fillings for shape in range(len(shaped.shapes))]
    return tuple(fillings)


def first_stems(book, styles, filling):
    """For each secret the first stem of its shape in a filling."""
    return tuple([shaped.stem_with(shape, 0) for shaped, shape in zip(_all_shaped(book, styles), filling)])


def filling_of(book, styles, stems):
    """The filling to which stems belong, one for each secret."""
    return tuple([shaped.place_with(stem)[0] for shaped, stem in zip(_all_shaped(book, styles), stems)])


def _all_shaped(book, styles):
    """The stems of all secrets by their joint shapes. Raises TooMany for shapes, then for fillings."""
    all_shaped = [Shaped(styles, secret) for secret in book]
    many = 1
    for shaped in all_shaped:
        many *= len(shaped.shapes)
    if many > MOST_FILLINGS:
        raise TooMany("fillings")
    return all_shaped
