"""Words, names, and the tokens of a text [3], [4]."""

LETTERS = "abcdefghijklmnopqrstuvwxyz"
WORD_CHARACTERS = "abcdefghijklmnopqrstuvwxyz0123456789.,:;!?'()+=<>*/"
BLANKS = " \n"
LONGEST_WORD = 16
LONGEST_NAME = 8


def is_word(run):
    """Whether a string is a word."""
    return 1 <= len(run) <= LONGEST_WORD and consists_of(run, WORD_CHARACTERS)


def is_name(run):
    """Whether a string is a name."""
    return 1 <= len(run) <= LONGEST_NAME and consists_of(run, LETTERS)


def consists_of(run, allowed):
    """Whether a string has only allowed characters."""
    return _run_end(run, 0, allowed) == len(run)


def tokens_of(text):
    """The tokens of a text, those that fit nowhere too."""
    found = []
    at = 0
    while at < len(text):
        if text[at] in BLANKS:
            at += 1
        else:
            behind = _token_end(text, at)
            found.append(text[at:behind])
            at = behind
    return tuple(found)


def _token_end(text, at):
    """The place behind the token that begins at a place."""
    if text[at] == "@":
        return _run_end(text, at + 1, LETTERS)
    if text[at] in WORD_CHARACTERS:
        return _run_end(text, at, WORD_CHARACTERS)
    return at + 1


def _run_end(text, at, allowed):
    """The place behind the run of allowed characters that begins at a place."""
    while at < len(text) and text[at] in allowed:
        at += 1
    return at
