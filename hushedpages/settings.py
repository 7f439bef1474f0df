"""A record that is set, in one style, for the fillings of a family [31]."""

from hushedpages.books import marked
from hushedpages.numbers import at_rest
from hushedpages.pieces import pieces_of
from hushedpages.sheets import look_of, traced_sheets


class Settings:
    """A record of a family's book, set in the style of this number for each filling that is asked for.

    What is made of a filled record hangs on a struck word only by its shape. So fillings for which all words of the
    record have the same shapes share one key, and the record is set once for each key.
    """

    def __init__(self, family, record, which):
        self.family = family
        self.record = record
        self.which = which
        self.holes = _holes_of(record, family.book)
        self.pages = {}
        self.sheets = {}
        self.looks = {}

    def key_of(self, filling):
        """What the record tells of a filling: the shapes of its words."""
        return tuple([self.family.word_shape(filling, at, ending, self.which) for at, ending in self.holes])

    def pages_for(self, filling):
        """The pages of the record for a filling, set with its settled numbers; raises the errors of setting."""
        key = self.key_of(filling)
        if key not in self.pages:
            filled = marked(self.record, self.family.book, self.family.first_stems(filling))
            self.pages[key] = at_rest(filled, self.family.styles[self.which])[0]
        return self.pages[key]

    def sheets_for(self, filling):
        """The sheets of the record for a filling, with traces."""
        key = self.key_of(filling)
        if key not in self.sheets:
            self.sheets[key] = traced_sheets(self.pages_for(filling))
        return self.sheets[key]

    def look_for(self, filling):
        """The look of the record for a filling."""
        key = self.key_of(filling)
        if key not in self.looks:
            self.looks[key] = look_of(self.sheets_for(filling))
        return self.looks[key]

    def views_for(self, fillings, curtains):
        """For each filling the row of looks that curtains make of its look."""
        rows = {}
        for filling in fillings:
            key = self.key_of(filling)
            if key not in rows:
                rows[key] = curtains(self.look_for(filling))
        return tuple([rows[self.key_of(filling)] for filling in fillings])


def _holes_of(record, book):
    """The numbers of the secret and of the ending of each hole of a record, ascending, each pair once."""
    numbers = {secret[0]: at for at, secret in enumerate(book)}
    return sorted({(numbers[piece[1]], piece[2]) for piece in pieces_of(record) if piece[0] == "hole"})
