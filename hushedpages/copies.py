"""What copies from elsewhere tell: which stems agree with them [46]."""

from hushedpages.errors import TooMany
from hushedpages.families import Family
from hushedpages.settings import Settings
from hushedpages.shapes import signs_between
from hushedpages.stocks import stems_many
from hushedpages.strips import BLANK, COVER

MOST_STEMS = 1000


def told_by(record, book, styles, which, copy):
    """What a copy tells: the fillings with stems that agree with it, each with the number of tuples of these."""
    found = [(filling, _many_of(stems)) for filling, stems in _agreeing(record, book, styles, which, copy)]
    return tuple([(filling, many) for filling, many in found if many > 0])


def stems_told(record, book, styles, which, copy, k):
    """The tuple of stems number k of all that agree with a copy."""
    rows = [stems for _, stems in _agreeing(record, book, styles, which, copy)]
    at = 0
    while k >= _many_of(rows[at]):
        k -= _many_of(rows[at])
        at += 1
    chosen = []
    for stems in reversed(rows[at]):
        k, number = divmod(k, len(stems))
        chosen.append(stems[number])
    return tuple(chosen[::-1])


def _many_of(rows):
    """In how many ways one thing can be chosen of each row."""
    many = 1
    for row in rows:
        many *= len(row)
    return many


def _agreeing(record, book, styles, which, copy):
    """For each filling of the family, for each secret the stems of its shape that agree with a copy."""
    family = Family(book, styles)
    for secret in book:
        if stems_many(secret[2]) > MOST_STEMS:
            raise TooMany("stems")
    settings = Settings(family, record, which)
    for filling in family.fillings:
        settings.pages_for(filling)
    stems = [[shaped.stems_with(shape) for shape in range(len(shaped.shapes))] for shaped in family.shaped]
    comparison = Comparison(settings, copy)
    return [(filling, [comparison.agreeing(filling, at, stems[at][shape]) for at, shape in enumerate(filling)])
            for filling in family.fillings]


class Comparison:
    """Compares a copy with the print of a record for fillings, and for the stems of these."""

    def __init__(self, settings, copy):
        self.settings = settings
        self.style = settings.family.styles[settings.which]
        self.copy = copy
        # What is seen of struck words is the same for all fillings of which the record tells the same.
        self.seen = {}

    def agreeing(self, filling, at, stems):
        """Which of some stems of the shape of secret number at agree with the copy, for a filling."""
        key = self.settings.key_of(filling)
        if key not in self.seen:
            self.seen[key] = self.seen_for(filling)
        if self.seen[key] is None:
            return []
        endings = self.settings.family.book[at][3]
        seen = [(endings[ending], first, last, signs)
                for (secret, ending), first, last, signs in self.seen[key] if secret == at]
        return [stem for stem in stems if self.fits(stem, seen)]

    def fits(self, stem, seen):
        """Whether the words of a stem have the signs that are seen of their pieces."""
        for ending, first, last, signs in seen:
            if not _agree(signs, signs_between(self.style, stem + ending, first, last)):
                return False
        return True

    def seen_for(self, filling):
        """What the copy shows of the struck words for a filling: pieces with their signs, each once.

        None if no stem agrees with the copy, whatever the struck words are.
        """
        sheets = self.settings.sheets_for(filling)
        if len(sheets) < len(self.copy):
            return None
        seen = {}
        for sheet, page in zip(sheets, self.copy):
            if len(sheet) != len(page):
                return None
            for strip, row in zip(sheet, page):
                signs, cover, trace = strip
                if len(signs) != len(row) or not _agree_beside(row, signs, cover):
                    return None
                for left, width, mark, first, last in trace:
                    seen[mark, first, last, row[left:left + width]] = True
        return sorted(list(seen))


def _agree(signs, others):
    """Whether signs of a copy, where they are not covered, are the same as others."""
    return all([sign in (COVER, other) for sign, other in zip(signs, others)])


def _agree_beside(row, signs, cover):
    """Whether a row of a copy, where it is not covered, has the same signs as a strip beside its struck words."""
    return all([sign == other or sign == COVER or over != BLANK for sign, other, over in zip(row, signs, cover)])
