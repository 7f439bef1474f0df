"""Of which kind something is that was passed and may be wrong in any way."""


def is_whole(thing, least, most):
    """Whether something is an integer from least to most."""
    return isinstance(thing, int) and least <= thing <= most


def is_tuple(thing, least, most):
    """Whether something is a tuple of least to most things."""
    return isinstance(thing, tuple) and least <= len(thing) <= most


def is_one_of(thing, signs):
    """Whether something is a string of one of these characters."""
    return isinstance(thing, str) and len(thing) == 1 and thing in signs
