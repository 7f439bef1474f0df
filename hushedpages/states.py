"""What an office is between two deeds: what of the family is left, and what its readers were given [38], [42].

Fillings are told here by their places among those that are left. A state is never changed; a deed makes a new one.
"""


class State:
    """An office between two deeds.

    Done are the deeds so far. Ruled are for each secret the stems that news has ruled out, ascending, each as its
    shape and its number among the stems of this shape. Given are for each reader, and for each filling, the notices;
    told likewise the numbers of the secrets of which the reader would have been told. Alike are for each reader
    numbers of the fillings: two of these have the same number if they have the same notices.
    """

    def __init__(self, grounds, done, ruled, fillings, given, told, alike):
        self.grounds = grounds
        self.done = done
        self.ruled = ruled
        self.fillings = fillings
        self.given = given
        self.told = told
        self.alike = alike
        self.counts = tuple([_counts_of(shaped, places) for shaped, places in zip(grounds.family.shaped, ruled)])

    def true_place(self):
        """The place of the true filling."""
        return self.fillings.index(self.grounds.truth)

    def alike_to(self, circle, k):
        """The places of the fillings that look to a circle like the one at a place."""
        return tuple([other for other in range(len(self.fillings))
                      if all([self.alike[reader][other] == self.alike[reader][k] for reader in circle])])

    def is_told(self, circle, secret, k):
        """Whether a secret is open to a circle for the filling at a place."""
        return any([secret in self.told[reader][k] for reader in circle])

    def ways_at(self, circle, filling, k):
        """For each secret the stems of its shape in a filling that are left, 1 if it is open for the one at a place."""
        return [1 if self.is_told(circle, secret, k) else self.counts[secret][shape]
                for secret, shape in enumerate(filling)]

    def stem_left(self, secret, shape, k):
        """The stem number k, of those of a secret's shape that news has left."""
        for ruled_shape, place in self.ruled[secret]:
            if ruled_shape == shape and place <= k:
                k += 1
        return self.grounds.family.shaped[secret].stem_with(shape, k)

    def with_notices(self, deed, reader, notices, told):
        """The state behind a deed by which a reader is given a notice for each filling, and told these secrets."""
        given = tuple([row + (notice,) for row, notice in zip(self.given[reader], notices)])
        numbers = {}
        alike = tuple([numbers.setdefault((number, notice), len(numbers))
                       for number, notice in zip(self.alike[reader], notices)])
        more = tuple([row + secrets for row, secrets in zip(self.told[reader], told)])
        return State(self.grounds, self.done + (deed,), self.ruled, self.fillings,
                     _replaced(self.given, reader, given), _replaced(self.told, reader, more),
                     _replaced(self.alike, reader, alike))

    def with_news(self, deed, secret, place):
        """The state behind the news that a stem, told by its shape and its number, is not that of a secret."""
        ruled = _replaced(self.ruled, secret, tuple(sorted(self.ruled[secret] + (place,))))
        shape = place[0]
        gone = self.counts[secret][shape] == 1
        left = [k for k, filling in enumerate(self.fillings) if not gone or filling[secret] != shape]
        return State(self.grounds, self.done + (deed,), ruled, _chosen(self.fillings, left),
                     _all_chosen(self.given, left), _all_chosen(self.told, left), _all_chosen(self.alike, left))


def first_state(grounds):
    """The state of an office ahead of all deeds."""
    fillings = grounds.family.fillings
    nothing = (((),) * len(fillings),) * len(grounds.readers)
    return State(grounds, (), ((),) * len(grounds.book), fillings, nothing, nothing,
                 ((0,) * len(fillings),) * len(grounds.readers))


def _counts_of(shaped, ruled):
    """The numbers of the stems of each shape of a secret that are not ruled out."""
    return tuple([many - len([place for place in ruled if place[0] == shape])
                  for shape, (_, many) in enumerate(shaped.shapes)])


def _replaced(row, at, other):
    """A row with another thing at one place."""
    return row[:at] + (other,) + row[at + 1:]


def _chosen(row, places):
    """What stands at some places of a row."""
    return tuple([row[k] for k in places])


def _all_chosen(rows, places):
    """What stands at some places of each row."""
    return tuple([_chosen(row, places) for row in rows])
