"""Fillings, and the family of a book [15]."""

from hushedpages.errors import TooMany
from hushedpages.joint import Shaped

MOST_FILLINGS = 64


def family(book, styles):
    """The family of a book: all its fillings, ascending."""
    return Family(book, styles).fillings


def first_stems(book, styles, filling):
    """For each secret the first stem of its shape in a filling."""
    return Family(book, styles).first_stems(filling)


def filling_of(book, styles, stems):
    """The filling to which stems belong, one for each secret."""
    return Family(book, styles).filling_of(stems)


class Family:
    """The family of a book for some styles: its fillings, and the stems of each secret by their joint shapes.

    Raises TooMany for shapes, then for fillings.
    """

    def __init__(self, book, styles):
        self.book = book
        self.styles = styles
        self.shaped = tuple([Shaped(styles, secret) for secret in book])
        many = 1
        for shaped in self.shaped:
            many *= len(shaped.shapes)
        if many > MOST_FILLINGS:
            raise TooMany("fillings")
        fillings = [()]
        for shaped in self.shaped:
            fillings = [filling + (shape,) for filling in fillings for shape in range(len(shaped.shapes))]
        self.fillings = tuple(fillings)

    def first_stems(self, filling):
        """For each secret the first stem of its shape in a filling."""
        return tuple([shaped.stem_with(shape, 0) for shaped, shape in zip(self.shaped, filling)])

    def filling_of(self, stems):
        """The filling to which stems belong, one for each secret."""
        return tuple([shaped.place_with(stem)[0] for shaped, stem in zip(self.shaped, stems)])

    def word_shape(self, filling, at, ending, which):
        """The shape of the word of secret number at with an ending, for a filling, in the style of this number."""
        return self.shaped[at].shapes[filling[at]][0][which][ending]
