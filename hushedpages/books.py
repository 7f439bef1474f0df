"""Books of secrets: their faults, those of a record against a book [13], and filled records [16]."""

from hushedpages.errors import BadEnding, BadSecret, TooLarge, Twice, Unknown
from hushedpages.kinds import is_whole, is_tuple
from hushedpages.pieces import pieces_of
from hushedpages.tokens import WORD_CHARACTERS, consists_of, is_name

MOST_SECRETS = 6
HIGHEST_KEEP = 1000000000
MOST_PATTERNS = 8
MOST_SLOTS = 8
STEM_CHARACTERS = "0123456789abcdefghijklmnopqrstuvwxyz"
MOST_ENDINGS = 3
LONGEST_ENDING = 8


def check_book(book):
    """Raises the first fault of a book."""
    if not is_tuple(book, 1, MOST_SECRETS):
        raise TooLarge("book")
    for at, secret in enumerate(book):
        part = _bent_part(secret)
        if part is not None:
            raise BadSecret(at, part)
    names = []
    for secret in book:
        if secret[0] in names:
            raise Twice(secret[0])
        names.append(secret[0])


def check_record(record, book):
    """Raises the first fault of a record against a book."""
    endings = {secret[0]: len(secret[3]) for secret in book}
    for piece in pieces_of(record):
        if piece[0] == "hole":
            if piece[1] not in endings:
                raise Unknown(piece[1])
            if piece[2] >= endings[piece[1]]:
                raise BadEnding(piece[1])


def filled(record, book, stems):
    """The record with the words of these stems, one for each secret, in the places of its holes."""
    words = {}
    for secret, stem in zip(book, stems):
        for at, ending in enumerate(secret[3]):
            words[secret[0], at] = (stem + ending,)
    return tuple([_filled_block(block, words) for block in record])


def marked(record, book, stems):
    """The filled record in which each struck word has a mark: the numbers of its secret and of its ending."""
    words = {}
    for number, (secret, stem) in enumerate(zip(book, stems)):
        for at, ending in enumerate(secret[3]):
            words[secret[0], at] = (stem + ending, (number, at))
    return tuple([_filled_block(block, words) for block in record])


# The parts of a secret.


def _bent_part(secret):
    """The first part of a secret that is not as told, None if all are."""
    if not is_tuple(secret, 4, 4):
        return "secret"
    name, keep, stock, endings = secret
    if not isinstance(name, str) or not is_name(name):
        return "name"
    if not is_whole(keep, 1, HIGHEST_KEEP):
        return "keep"
    if not _is_stock(stock):
        return "stock"
    if not _are_endings(endings):
        return "endings"
    return None


def _is_stock(stock):
    """Whether something is a tuple of patterns of which no two have a stem in common."""
    if not is_tuple(stock, 1, MOST_PATTERNS) or not all([_is_pattern(pattern) for pattern in stock]):
        return False
    for at, pattern in enumerate(stock):
        if any([_have_common_stem(pattern, earlier) for earlier in stock[:at]]):
            return False
    return True


def _is_pattern(pattern):
    """Whether something is a tuple of slots."""
    return is_tuple(pattern, 1, MOST_SLOTS) and all([_is_slot(slot) for slot in pattern])


def _is_slot(slot):
    """Whether something is a string of characters for stems, ascending, at least one."""
    if not isinstance(slot, str) or len(slot) == 0 or not consists_of(slot, STEM_CHARACTERS):
        return False
    return all([sign < later for sign, later in zip(slot, slot[1:])])


def _have_common_stem(pattern, other):
    """Whether a string belongs to both patterns."""
    return len(pattern) == len(other) and all([_have_common_sign(slot, told) for slot, told in zip(pattern, other)])


def _have_common_sign(slot, other):
    """Whether a character belongs to both slots."""
    return any([sign in other for sign in slot])


def _are_endings(endings):
    """Whether something is a tuple of endings, all different."""
    if not is_tuple(endings, 1, MOST_ENDINGS) or not all([_is_ending(ending) for ending in endings]):
        return False
    return len(set(endings)) == len(endings)


def _is_ending(ending):
    """Whether something is a string that can stand behind a stem."""
    return isinstance(ending, str) and len(ending) <= LONGEST_ENDING and consists_of(ending, WORD_CHARACTERS)


# Filling; words tells what stands for the name of each secret and the number of each of its endings: a tuple of the
# word, and of its mark if it has one.


def _filled_block(block, words):
    """The block with words in the places of its holes."""
    kind = block[0]
    if kind in ("head", "par", "show"):
        return kind, _filled_pieces(block[1], words)
    if kind == "list":
        return kind, _all_filled(block[1], words)
    if kind == "table":
        return kind, tuple([_filled_row(row, words) for row in block[1]])
    if kind == "figure":
        return kind, block[1], _filled_pieces(block[2], words)
    return block


def _filled_row(row, words):
    """The row of a table with words in the places of its holes."""
    return tuple([(span, _filled_pieces(pieces, words)) for span, pieces in row])


def _all_filled(rows, words):
    """Each of some rows of pieces, or of some formulas, with words in the places of its holes."""
    return tuple([_filled_pieces(pieces, words) for pieces in rows])


def _filled_pieces(pieces, words):
    """Pieces, or a formula, with words in the places of their holes."""
    return tuple([_filled_piece(piece, words) for piece in pieces])


def _filled_piece(piece, words):
    """A piece, or a part of a formula, with words in the places of its holes."""
    kind = piece[0]
    if kind == "hole":
        return ("hid",) + words[piece[1], piece[2]]
    if kind in ("note", "over", "up", "low", "fence"):
        return (kind,) + _all_filled(piece[1:], words)
    if kind == "grid":
        return kind, tuple([_all_filled(line, words) for line in piece[1]])
    return piece
