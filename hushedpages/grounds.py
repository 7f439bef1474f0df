"""What of an office never changes: its book and styles, the truth, its readers and circles [38]."""

from hushedpages.errors import Twice, Unknown
from hushedpages.families import Family
from hushedpages.settings import Settings


class Grounds:
    """What of an office never changes; readers and secrets are told by their numbers, circles by those of readers.

    Stems are the true ones, and truth is their filling. Records are kept as they were set, as they are often asked
    for again; this changes no answer.
    """

    def __init__(self, book, styles, stems, readers, circles):
        self.book = book
        self.stems = stems
        self.family = Family(book, styles)
        self.truth = self.family.filling_of(stems)
        self.readers = readers
        for at, name in enumerate(readers):
            if name in readers[:at]:
                raise Twice(name)
        given = [tuple([self.reader_number(name) for name in circle]) for circle in circles]
        self.circles = tuple([(reader,) for reader in range(len(readers))] + given)
        self.known_settings = []

    def reader_number(self, name):
        """The number of the reader of this name."""
        if name not in self.readers:
            raise Unknown(name)
        return self.readers.index(name)

    def secret_number(self, name):
        """The number of the secret of this name."""
        for at, secret in enumerate(self.book):
            if secret[0] == name:
                return at
        raise Unknown(name)

    def settings_of(self, record, which):
        """The settings of a record in the style of this number."""
        for settings in self.known_settings:
            if settings.which == which and settings.record == record:
                return settings
        made = Settings(self.family, record, which)
        self.known_settings.append(made)
        return made
