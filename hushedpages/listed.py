"""What of a record is told with numbers of pages: labels, headings and keys [22], [26]."""

from hushedpages.pieces import pieces_of


def listed_labels(record):
    """The labels that some page piece of a record names, in the order of their blocks."""
    named = {piece[1]: True for piece in pieces_of(record) if piece[0] == "page"}
    return tuple([block[1] for block in record if block[0] == "label" and block[1] in named])


def listed_heads(record):
    """The numbers of the blocks that are headings, () if the record has no contents block."""
    if not _has_block(record, "contents"):
        return ()
    return tuple([at for at, block in enumerate(record) if block[0] == "head"])


def listed_keys(record):
    """The words that keys of a record have, ascending, each once; () if it has no index block."""
    if not _has_block(record, "index"):
        return ()
    return tuple(sorted({piece[1] for piece in pieces_of(record) if piece[0] == "key"}))


def _has_block(record, kind):
    """Whether a record has a block of a kind."""
    return any([block[0] == kind for block in record])
