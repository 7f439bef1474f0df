"""The numbers of pages that a record tells: those to begin with, and those found with others [26]."""

from hushedpages.listed import listed_heads, listed_keys, listed_labels
from hushedpages.pages import Pages


def first_numbers(record):
    """The first numbers of a record."""
    return (0,) * len(listed_labels(record)), (0,) * len(listed_heads(record)), ((),) * len(listed_keys(record))


def found_numbers(filled, style, numbers):
    """The numbers that are found where a filled record is set with some numbers; None where None was."""
    pages = Pages(filled, style, numbers)
    labels = [pages.label_page(label) for label in listed_labels(filled)]
    heads = [pages.head_page(at) for at in listed_heads(filled)]
    told = [pages.key_pages(word) for word in listed_keys(filled)]
    return _blanked(labels, numbers[0]), _blanked(heads, numbers[1]), _blanked(told, numbers[2])


def _blanked(found, numbers):
    """Found numbers, with None where None was."""
    return tuple([None if number is None else new for new, number in zip(found, numbers)])
