"""The office: it does deeds, and tells exactly what its circles know [38] to [45]."""

from hushedpages.charts import ties_of
from hushedpages.deeds import after, check_deed, true_plan
from hushedpages.grounds import Grounds
from hushedpages.plans import reasons_of, ways_in
from hushedpages.states import first_state


class Office:
    """An office with its book, its styles, the true stems, its readers and circles."""

    def __init__(self, book, styles, stems, *, readers, circles=()):
        self.grounds = Grounds(book, styles, stems, readers, circles)
        self.state = first_state(self.grounds)

    # Deeds. A state is never changed, so nothing has changed if a deed raises an error.

    def act(self, deed):
        """Does a deed; the notice that the reader is given, None for news."""
        self.state, notice = after(self.state, deed)
        return notice

    def acts(self, deeds):
        """Does one deed after the other, each when its notice is asked for."""
        for deed in deeds:
            yield self.act(deed)

    def tried(self, deeds):
        """The notices that these deeds would give, done one after the other."""
        state = self.state
        notices = []
        for deed in deeds:
            state, notice = after(state, deed)
            notices.append(notice)
        return tuple(notices)

    def trial(self):
        """What a with statement takes, so that behind it the office is as it was ahead of it."""
        return Trial(self)

    @property
    def deeds(self):
        """All deeds done so far."""
        return self.state.done

    @deeds.setter
    def deeds(self, value):
        """Begins anew and does these deeds."""
        self.again(value)

    def again(self, deeds):
        """Begins anew and does these deeds."""
        state = first_state(self.grounds)
        for deed in deeds:
            state, _ = after(state, deed)
        self.state = state

    # What circles know.

    def known(self, circle):
        """The fillings that look to a circle like the true one."""
        readers = self.grounds.circles[circle]
        return tuple([self.state.fillings[k] for k in self.state.alike_to(readers, self.state.true_place())])

    def ways(self, circle, secret):
        """The ways of a secret for a circle."""
        at = self.grounds.secret_number(secret)
        if self.state.is_told(self.grounds.circles[circle], at, self.state.true_place()):
            return 1
        return ways_in(self.state.counts, self.known(circle), at)

    def ties(self, circle):
        """The ties of what a circle knows."""
        return ties_of(self.known(circle))

    def many(self, circle):
        """The number of tuples of stems that a circle cannot exclude."""
        return sum([_product(sizes) for _, sizes in self.sizes_for(circle)])

    def possible(self, circle, k):
        """The tuple of stems number k that a circle cannot exclude."""
        at = 0
        rows = self.sizes_for(circle)
        while k >= _product(rows[at][1]):
            k -= _product(rows[at][1])
            at += 1
        filling, sizes = rows[at]
        stems = []
        for secret in reversed(range(len(sizes))):
            k, number = divmod(k, sizes[secret])
            stems.append(self.stem_for(circle, secret, filling[secret], number))
        return tuple(stems[::-1])

    def sizes_for(self, circle):
        """For each filling that a circle knows as possible, how many stems of each secret it cannot exclude."""
        readers = self.grounds.circles[circle]
        place = self.state.true_place()
        return [(filling, self.state.ways_at(readers, filling, place)) for filling in self.known(circle)]

    def stem_for(self, circle, secret, shape, k):
        """The stem number k of a secret's shape of those that a circle cannot exclude."""
        if self.state.is_told(self.grounds.circles[circle], secret, self.state.true_place()):
            return self.grounds.stems[secret]
        return self.state.stem_left(secret, shape, k)

    # Notices, plans and numbers.

    def notices(self, reader):
        """The notices that a reader was given."""
        return self.state.given[self.grounds.reader_number(reader)][self.state.true_place()]

    def would(self, reader, filling):
        """The notices that a reader would have been given for a filling that is left."""
        return self.state.given[self.grounds.reader_number(reader)][self.state.fillings.index(filling)]

    def plan_of(self, deed):
        """The scene of the true filling's lot for a deed, its views, the finest plan and the finder's paper."""
        check_deed(self.state, deed)
        scene, views, plan = true_plan(self.state, deed)
        return scene, views, plan, reasons_of(scene, views)

    def counts_left(self):
        """For each secret the numbers of the stems of its shapes that news has left."""
        return self.state.counts

    def fillings_left(self):
        """The fillings of the family that are left."""
        return self.state.fillings


class Trial:
    """Keeps the state that an office has where a with statement is entered, and gives it back behind it.

    One trial can be entered several times, also within itself.
    """

    def __init__(self, office):
        self.office = office
        self.kept = None

    def __enter__(self):
        """Keeps the state of the office, which is held."""
        self.kept = Kept(self.office.state, self.kept)
        return self.office

    # The state that was kept last is given back, also when an error leaves the block.
    def __exit__(self, kind, value, trace):
        office = self.office
        office.state = self.kept.state
        self.kept = self.kept.earlier


class Kept:
    """A state that is kept, and the one that was kept ahead of it, None if there was none."""

    def __init__(self, state, earlier):
        self.state = state
        self.earlier = earlier


def _product(sizes):
    """The product of some numbers."""
    product = 1
    for size in sizes:
        product *= size
    return product
