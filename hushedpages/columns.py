"""Columns: the states of a stack, the net of the columns that fit, and the least ones [24]."""

from hushedpages.errors import TooTall
from hushedpages.nets import least_way_along


def states(stack):
    """The states of a stack, ascending."""
    rows, figures = stack
    return tuple([(at, waiting) for at in _ends(rows) for waiting in range(len(figures) + 1)])


def column_net(depth, late, stack):
    """The net of the states of a stack, with an arc for each column that fits."""
    columns = Columns(depth, late, stack)
    places = states(stack)
    numbers = {place: number for number, place in enumerate(places)}
    arcs = []
    for tail, place in enumerate(places):
        arcs.extend([(tail, numbers[head], cost) for head, cost in columns.columns_from(place)])
    return len(places), tuple(arcs)


def least_columns(depth, late, stack):
    """The states at which the columns of a stack begin and end."""
    columns = Columns(depth, late, stack)
    # The net itself is not made, as there can be very many columns.
    least = least_way_along(states(stack), lambda state: columns.columns_from(state))
    if least is None:
        raise TooTall()
    return least[1]


def _ends(rows):
    """The entries that are rows, and the number of entries."""
    return [at for at, (_, kind, _) in enumerate(rows) if kind == 1] + [len(rows)]


class Columns:
    """The columns of a stack that fit in a depth, and their costs."""

    def __init__(self, depth, late, stack):
        self.depth = depth
        self.late = late
        self.rows, self.figures = stack
        self.ends = _ends(self.rows)
        self.goal = (len(self.rows), len(self.figures))
        self.places = {end: at for at, end in enumerate(self.ends)}
        # The feet of the entries ahead of each, and the heights of the figures ahead of each, all together.
        self.feet = _sums([foot for _, _, foot in self.rows])
        self.heights = _sums([height for height, _ in self.figures])
        self.known = {end: self.many_known(end) for end in self.ends}

    def many_known(self, end):
        """How many figures, which are the first ones, are known to a column that ends ahead of an entry."""
        if end == len(self.rows):
            return len(self.figures)
        return len([known for _, known in self.figures if known < end])

    def height_held(self, first, end):
        """The height of the entries that a column holds, with its foot."""
        many = end - first
        if 0 < many and end < len(self.rows) and self.rows[end - 1][1] == 0:
            many -= 1
        foot = self.feet[end] - self.feet[first]
        return many + foot + 1 if foot > 0 else many

    def columns_from(self, state):
        """The columns that fit and go from a state: to which state each goes, ascending, and its cost."""
        first = state[0]
        found = []
        for end in self.ends[self.places[first]:]:
            held = self.height_held(first, end)
            if held > self.depth:
                return found
            if self.may_end(first, end):
                found.extend(self.columns_to(state, end, held))
        return found

    def may_end(self, first, end):
        """Whether a column that begins with an entry may end ahead of another one."""
        return end == first or end == len(self.rows) or self.rows[end][0] is not None

    def columns_to(self, state, end, held):
        """The columns that fit and go from a state to those with this end; held is the height of their entries."""
        first, waiting = state
        price = 0 if end == first or end == len(self.rows) else self.rows[end][0]
        known = self.known[end]
        found = []
        # A column holds no figures that are not known to it.
        for behind in range(waiting, max(waiting, known) + 1):
            rest = self.depth - held - self.heights[behind] + self.heights[waiting]
            if rest < 0:
                return found
            head = (end, behind)
            if head != state:
                cost = 0 if head == self.goal else price + rest * rest + self.late * max(0, known - behind)
                found.append((head, cost))
        return found


def _sums(numbers):
    """The sums of the numbers ahead of each of them, and of all."""
    sums = [0]
    for number in numbers:
        sums.append(sums[-1] + number)
    return sums
