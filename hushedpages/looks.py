"""The looks of a record for the fillings of a family [31], and its views [32]."""

from hushedpages.books import filled
from hushedpages.curtains import Curtains
from hushedpages.families import Family
from hushedpages.settings import Settings
from hushedpages.sheets import look_of, settled


def look_with(record, book, style, stems):
    """The look of a record that is filled by some stems, one of each secret, and set in a style."""
    return look_of(settled(filled(record, book, stems), style)[0])


def views_of(record, book, styles, which, steps):
    """For each filling of the family the row of looks of a record, in the style of this number."""
    family = Family(book, styles)
    curtains = Curtains(steps)
    return Settings(family, record, which).views_for(family.fillings, curtains)
