"""Styles: their faults, and what they tell of characters [11]."""

from hushedpages.errors import BadStyle
from hushedpages.kinds import is_whole, is_one_of, is_tuple
from hushedpages.tokens import LETTERS, WORD_CHARACTERS

HIGHEST_PRICE = 999


def check_style(style):
    """Raises the fault of the first part of a style that is not as told."""
    part = _bent_part(style)
    if part is not None:
        raise BadStyle(part)


def width_of(style, sign):
    """The width of a character."""
    return _told(style[3], (sign,), 1)


def cut_of(style, sign, next_sign):
    """By how much a character is narrower if this one stands directly behind it."""
    return _told(style[4], (sign, next_sign), 0)


def break_price(style, sign, next_sign):
    """The price of a parting between two characters, None if there is no such break."""
    return _told(style[5], (sign, next_sign), None)


def _told(rows, key, otherwise):
    """The last thing of the row that begins with this key; there can be very many rows, and they ascend."""
    low = 0
    high = len(rows)
    while low < high:
        middle = (low + high) // 2
        if rows[middle][:-1] < key:
            low = middle + 1
        else:
            high = middle
    if low < len(rows) and rows[low][:-1] == key:
        return rows[low][-1]
    return otherwise


def _bent_part(style):
    """The first part that is not as told, None if all are."""
    if not is_tuple(style, 7, 7):
        return "style"
    measure, depth, columns, widths, cuts, breaks, prices = style
    if not is_whole(measure, 6, 60):
        return "measure"
    if not is_whole(depth, 3, 40):
        return "depth"
    if not is_whole(columns, 1, 3):
        return "columns"
    if not _are_right_widths(widths):
        return "widths"
    if not _are_right_cuts(cuts, widths):
        return "cuts"
    if not _are_right_breaks(breaks):
        return "breaks"
    if not is_tuple(prices, 5, 5) or not all([is_whole(price, 0, HIGHEST_PRICE) for price in prices]):
        return "prices"
    return None


def _are_right_widths(widths):
    """Whether the widths are as told."""
    if not _are_rows(widths, 2):
        return False
    for sign, width in widths:
        if not is_one_of(sign, WORD_CHARACTERS) or not is_whole(width, 2, 3):
            return False
    return _ascend(widths)


def _are_right_cuts(cuts, widths):
    """Whether the cuts are as told, with right widths."""
    if not _are_rows(cuts, 3):
        return False
    for sign, next_sign, cut in cuts:
        if not is_one_of(sign, WORD_CHARACTERS) or not is_one_of(next_sign, WORD_CHARACTERS):
            return False
        if not is_whole(cut, 1, _told(widths, (sign,), 1) - 1):
            return False
    return _ascend(cuts)


def _are_right_breaks(breaks):
    """Whether the breaks are as told."""
    if not _are_rows(breaks, 3):
        return False
    for sign, next_sign, price in breaks:
        if not is_one_of(sign, LETTERS) or not is_one_of(next_sign, LETTERS):
            return False
        if not is_whole(price, 0, HIGHEST_PRICE):
            return False
    return _ascend(breaks)


def _are_rows(things, many):
    """Whether something is a tuple of tuples with so many things each."""
    return isinstance(things, tuple) and all([is_tuple(row, many, many) for row in things])


def _ascend(rows):
    """Whether rows ascend, and no two of them are equal up to their last thing."""
    return all([row[:-1] < later[:-1] for row, later in zip(rows, rows[1:])])
