"""What copies from elsewhere tell: which stems agree with them [46]."""

from hushedpages.errors import TooMany
from hushedpages.families import Family
from hushedpages.settings import Settings
from hushedpages.shapes import signs_between
from hushedpages.stocks import stems_many
from hushedpages.strips import BLANK, COVER

MOST_STEMS = 1000


def told_by(record, book, styles, which, copy):
    """What a copy tells: the fillings with stems that agree with it, each with the number of tuples of these."""
    found = [(filling, _many_of(stems)) for filling, stems in _agreeing(record, book, styles, which, copy)]
    return tuple([(filling, many) for filling, many in found if many > 0])


def stems_told(record, book, styles, which, copy, k):
    """The tuple of stems number k of all that agree with a copy."""
    rows = [stems for _, stems in _agreeing(record, book, styles, which, copy)]
    at = 0
    while k >= _many_of(rows[at]):
        k -= _many_of(rows[at])
        at += 1
    chosen = []
    for stems in reversed(rows[at]):
        k, number = divmod(k, len(stems))
        chosen.append(stems[number])
    return tuple(chosen[::-1])


def _many_of(rows):
    """In how many ways one thing can be chosen of each row."""
    many = 1
    for row in rows:
        many *= len(row)
    return many


def _agreeing(record, book, styles, which, copy):
    """For each filling of the family, for each secret the stems of its shape that agree with a copy."""
    family = Family(book, styles)
    for secret in book:
        if stems_many(secret[2]) > MOST_STEMS:
            raise TooMany("stems")
    comparison = Comparison(Settings(family, record, which), copy)
    return [(filling, [comparison.agreeing(filling, at) for at in range(len(book))]) for filling in family.fillings]


class Comparison:
    """Compares a copy with the print of a record for all fillings, and for all stems of these.

    Raises the first error of setting the record for the fillings, in their order.
    """

    def __init__(self, settings, copy):
        self.settings = settings
        self.family = settings.family
        self.copy = copy
        for filling in self.family.fillings:
            settings.pages_for(filling)
        self.stems = [shaped.all_stems() for shaped in self.family.shaped]
        # What is seen of struck words is the same for all fillings of which the record tells the same.
        self.seen = {}
        self.signs = {}

    def agreeing(self, filling, at):
        """The stems of secret number at, of its shape in a filling, that agree with the copy for this filling."""
        key = self.settings.key_of(filling)
        if key not in self.seen:
            self.seen[key] = self.seen_for(filling)
        if self.seen[key] is None:
            return []
        stems = self.stems[at][filling[at]]
        left = list(range(len(stems)))
        for (secret, ending), first, last, row in self.seen[key]:
            if secret == at:
                signs = self.signs_of_all(at, filling[at], ending, first, last)
                left = [k for k in left if _agree(row, signs[k])]
        return [stems[k] for k in left]

    def signs_of_all(self, at, shape, ending, first, last):
        """For each stem of a shape of secret number at the signs of the piece of its word between two partings."""
        key = at, shape, ending, first, last
        if key not in self.signs:
            style = self.family.styles[self.settings.which]
            behind = self.family.book[at][3][ending]
            self.signs[key] = [signs_between(style, stem + behind, first, last) for stem in self.stems[at][shape]]
        return self.signs[key]

    def seen_for(self, filling):
        """What the copy shows of the struck words for a filling: pieces with what is seen of them, each once.

        None if no stem agrees with the copy, whatever the struck words are.
        """
        sheets = self.settings.sheets_for(filling)
        if len(sheets) < len(self.copy):
            return None
        seen = {}
        for sheet, page in zip(sheets, self.copy):
            if len(sheet) != len(page):
                return None
            for strip, row in zip(sheet, page):
                signs, cover, trace = strip
                if len(signs) != len(row) or not _agree_beside(row, signs, cover):
                    return None
                for left, width, mark, first, last in trace:
                    part = row[left:left + width]
                    if part != COVER * width:
                        seen[mark, first, last, part] = True
        return sorted(list(seen))


def _agree(signs, others):
    """Whether signs of a copy, where they are not covered, are the same as others."""
    return all([sign in (COVER, other) for sign, other in zip(signs, others)])


def _agree_beside(row, signs, cover):
    """Whether a row of a copy, where it is not covered, has the same signs as a strip beside its struck words."""
    return all([sign == other or sign == COVER or over != BLANK for sign, other, over in zip(row, signs, cover)])
