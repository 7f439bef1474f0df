"""The stems of a stock and their numbers [14]. There can be very many, so they are never gone through."""


def stems_many(stock):
    """The number of stems."""
    return sum([_pattern_many(pattern) for pattern in stock])


def stem_at(stock, k):
    """The stem number k, fewer than there are."""
    at = 0
    many = _pattern_many(stock[at])
    while k >= many:
        k -= many
        at += 1
        many = _pattern_many(stock[at])
    return _stem_in(stock[at], k)


def place_in(stock, stem):
    """The number of a stem, None for any other string."""
    ahead = 0
    for pattern in stock:
        if _belongs(stem, pattern):
            return ahead + _place_within(pattern, stem)
        ahead += _pattern_many(pattern)
    return None


def _pattern_many(pattern):
    """The number of stems of a pattern."""
    many = 1
    for slot in pattern:
        many *= len(slot)
    return many


def _stem_in(pattern, k):
    """The stem number k of a pattern: its last character changes from each stem to the next one."""
    signs = []
    for slot in reversed(pattern):
        k, at = divmod(k, len(slot))
        signs.append(slot[at])
    return "".join(signs[::-1])


def _belongs(stem, pattern):
    """Whether a string is a stem of a pattern."""
    return len(stem) == len(pattern) and all([sign in slot for sign, slot in zip(stem, pattern)])


def _place_within(pattern, stem):
    """The number of a stem among those of its pattern."""
    place = 0
    for sign, slot in zip(stem, pattern):
        place = place * len(slot) + slot.find(sign)
    return place
