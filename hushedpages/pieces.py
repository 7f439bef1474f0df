"""All pieces of a record, in order, and which of them are struck."""


def pieces_of(record):
    """The pieces of a record, in order: behind a note its own pieces, and of a formula its words and holes."""
    found = []
    for block in record:
        for pieces in _rows_of(block):
            _put_pieces(pieces, found)
    return tuple(found)


def struck_of(piece):
    """0 for a piece whose word is not struck, otherwise the mark of the struck word, which is 1 if it has none."""
    if piece[0] != "hid":
        return 0
    return piece[2] if len(piece) == 3 else 1


def _rows_of(block):
    """The rows of pieces of a block, in order; a formula is one such row, too."""
    if block[0] in ("head", "par", "show"):
        return (block[1],)
    if block[0] == "list":
        return block[1]
    if block[0] == "table":
        return tuple([pieces for row in block[1] for _, pieces in row])
    if block[0] == "figure":
        return (block[2],)
    return ()


def _put_pieces(pieces, found):
    """Puts pieces, or the words and holes of a formula, behind the others."""
    for piece in pieces:
        if piece[0] == "grid":
            for line in piece[1]:
                _put_all(line, found)
        elif piece[0] in ("over", "up", "low", "fence"):
            _put_all(piece[1:], found)
        else:
            found.append(piece)
            if piece[0] == "note":
                _put_pieces(piece[1], found)


def _put_all(formulas, found):
    """Puts the words and holes of some formulas behind the others."""
    for formula in formulas:
        _put_pieces(formula, found)
