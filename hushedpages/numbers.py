"""The numbers of pages that a record tells: those to begin with, those found with others, and those at rest [26]."""

from hushedpages.listed import listed_heads, listed_keys, listed_labels
from hushedpages.pages import Pages


def first_numbers(record):
    """The first numbers of a record."""
    return (0,) * len(listed_labels(record)), (0,) * len(listed_heads(record)), ((),) * len(listed_keys(record))


def found_numbers(filled, style, numbers):
    """The numbers that are found where a filled record is set with some numbers; None where None was."""
    return _found_on(Pages(filled, style, numbers), numbers)


def at_rest(filled, style):
    """The pages of a filled record that is set with its settled numbers, these numbers, and the rings ahead of them."""
    rings = []
    followed = [first_numbers(filled)]
    while True:
        numbers = followed[-1]
        pages = Pages(filled, style, numbers)
        found = _found_on(pages, numbers)
        if found == numbers:
            return pages, numbers, tuple(rings)
        if found in followed:
            ring = tuple(followed[followed.index(found):])
            rings.append(ring)
            followed = [_blanked_by(ring)]
        else:
            followed.append(found)


def _found_on(pages, numbers):
    """The numbers that are found on the pages of a record that is set with some numbers."""
    record = pages.filled
    labels = [pages.label_page(label) for label in listed_labels(record)]
    heads = [pages.head_page(at) for at in listed_heads(record)]
    keys = [pages.key_pages(word) for word in listed_keys(record)]
    return _blanked(labels, numbers[0]), _blanked(heads, numbers[1]), _blanked(keys, numbers[2])


def _blanked(found, numbers):
    """Found numbers, with None where None was."""
    return tuple([None if number is None else new for new, number in zip(found, numbers)])


def _blanked_by(ring):
    """The first numbers of a ring, with None for each that is not the same throughout the ring."""
    return tuple([tuple([_constant([numbers[part][at] for numbers in ring]) for at in range(len(ring[0][part]))])
                  for part in range(len(ring[0]))])


def _constant(row):
    """What stands at every place of a row, None if it is not the same throughout."""
    return row[0] if all([other == row[0] for other in row]) else None
