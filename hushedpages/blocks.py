"""The record of an expanded tree: its blocks, pieces and formulas [8], [9], and its faults [10]."""

from hushedpages.errors import Misplaced, TooLarge, Twice, Unknown
from hushedpages.macros import expanded
from hushedpages.nodes import check_nodes
from hushedpages.pieces import pieces_of
from hushedpages.reading import read_tree

MOST_BLOCKS = 40
MOST_PIECES = 300
MOST_ROWS = 12
MOST_SPANS = 8


def record_of(text):
    """The record of the expansion of the tree of a text."""
    return blocks_of(expanded(read_tree(text)))


def blocks_of(tree):
    """The record of an expanded tree."""
    check_nodes(tree, "top")
    record = tuple([_block(node) for node in tree])
    _check_whole(record)
    return record


# What is built from the calls of a tree whose nodes have no faults.


def _block(call):
    """The block of a call of the top level."""
    name, given = call[1], call[2]
    if name in ("head", "par", "show"):
        return name, _pieces(given[0])
    if name == "list":
        return name, tuple([_pieces(item[2][0]) for item in given[0]])
    if name == "table":
        return name, tuple([_row(row) for row in given[0]])
    if name == "figure":
        return name, int(_word(given[0])), _pieces(given[1])
    if name == "label":
        return name, _word(given[0])
    return (name,)


def _row(call):
    """The row of a table: its cells."""
    return tuple([_cell(cell[2]) for cell in call[2][0]])


def _cell(given):
    """The cell with these arguments."""
    if len(given) == 1:
        return 1, _pieces(given[0])
    return int(_word(given[0])), _pieces(given[1])


def _pieces(tree):
    """The pieces of a tree, or the parts of a formula."""
    return tuple([_piece(node) for node in tree])


def _piece(node):
    """The piece, or the part of a formula, of a node."""
    if node[0] == "word":
        return "say", node[1]
    name, given = node[1], node[2]
    if name == "hole":
        return name, _word(given[0]), int(_word(given[1])) if len(given) == 2 else 0
    if name in ("page", "key"):
        return name, _word(given[0])
    if name == "grid":
        return name, tuple([_all_pieces(line[2]) for line in given[0]])
    return (name,) + _all_pieces(given)


def _all_pieces(trees):
    """The pieces of each of some trees."""
    return tuple([_pieces(tree) for tree in trees])


def _word(argument):
    """The word of which an argument consists."""
    return argument[0][1]


# The faults of a whole record.


def _check_whole(record):
    """Raises the first fault of a whole record."""
    pieces = pieces_of(record)
    _check_labels(record, pieces)
    if len(record) > MOST_BLOCKS:
        raise TooLarge("blocks")
    if len(pieces) > MOST_PIECES:
        raise TooLarge("pieces")
    for block in record:
        if block[0] == "table":
            _check_table(block[1])


def _check_labels(record, pieces):
    """Raises the first fault of the labels of a record, and of the pages of labels among its pieces."""
    if len(record) > 0 and record[-1][0] == "label":
        raise Misplaced("label")
    labels = {}
    for block in record:
        if block[0] == "label":
            if block[1] in labels:
                raise Twice(block[1])
            labels[block[1]] = True
    for piece in pieces:
        if piece[0] == "page" and piece[1] not in labels:
            raise Unknown(piece[1])


def _check_table(rows):
    """Refuses a table that is too large."""
    if len(rows) > MOST_ROWS:
        raise TooLarge("table")
    for row in rows:
        if sum([span for span, _ in row]) > MOST_SPANS:
            raise TooLarge("table")
