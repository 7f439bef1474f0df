"""The signs and widths of pieces of words, and the shapes of words [12]."""

from hushedpages.styles import break_price, cut_of, width_of

HYPHEN = "-"
FILLER = "_"


def signs_of(style, word, first, behind):
    """The signs of the piece of a word from place first up to, not including, place behind."""
    signs = []
    for at in range(first, behind):
        signs.append(word[at] + FILLER * (_width_at(style, word, at, behind) - 1))
    if behind < len(word):
        signs.append(HYPHEN)
    return "".join(signs)


def signs_between(style, word, first, last):
    """The signs of the piece of a word between two partings, counted from 1; 0 for no parting."""
    places = parting_places(style, word)
    return signs_of(style, word, places[first - 1] if first > 0 else 0, places[last - 1] if last > 0 else len(word))


def shape_of(style, word):
    """The shape of a word: its width, and its partings."""
    partings = []
    for at in parting_places(style, word):
        left = _piece_width(style, word, 0, at)
        right = _piece_width(style, word, at, len(word))
        partings.append((left, right, break_price(style, word[at - 1], word[at])))
    return _piece_width(style, word, 0, len(word)), tuple(partings)


def parting_places(style, word):
    """The places at which a word can be parted, ascending."""
    return [at for at in range(2, len(word) - 1) if break_price(style, word[at - 1], word[at]) is not None]


def piece_width(shape, first, last):
    """The width of the piece of a word with this shape between two partings, counted from 1; 0 for no parting."""
    width, partings = shape
    if first == 0 and last == 0:
        return width
    if first == 0:
        return partings[last - 1][0]
    if last == 0:
        return partings[first - 1][1]
    return partings[first - 1][1] + partings[last - 1][0] - width


def _piece_width(style, word, first, behind):
    """The width of the piece of a word from place first up to, not including, place behind."""
    width = sum([_width_at(style, word, at, behind) for at in range(first, behind)])
    return width + 1 if behind < len(word) else width


def _width_at(style, word, at, behind):
    """The width of the character at a place, less the cut for the next one in a piece that ends ahead of behind."""
    if at + 1 < behind:
        return width_of(style, word[at]) - cut_of(style, word[at], word[at + 1])
    return width_of(style, word[at])
