"""Charts and ties of sets of fillings [37]."""

from itertools import combinations


def chart_of(fillings):
    """The chart of a set of fillings."""
    many = len(fillings[0])
    chart = []
    # For each beginning that is one place longer, the number of the node of its rest; whole fillings have no rest.
    behind = {filling: 0 for filling in fillings}
    for at in reversed(range(many)):
        # The pairs of each beginning ascend, and so do the beginnings, as the fillings do.
        pairs = {}
        for longer in behind:
            pairs.setdefault(longer[:at], []).append((longer[at], behind[longer]))
        numbers = {}
        found = {}
        for beginning in pairs:
            node = tuple(pairs[beginning])
            found[beginning] = numbers.setdefault(node, len(numbers))
        chart.append(tuple(numbers))
        behind = found
    return tuple(chart[::-1])


def read_chart(chart):
    """The fillings that are read off a chart, ascending."""
    # Beginnings, each with the number of the node for what stands behind it.
    begun = [((), 0)]
    for nodes in chart:
        begun = [(beginning + (x,), k) for beginning, number in begun for x, k in nodes[number]]
    return tuple([filling for filling, _ in begun])


def ties_of(fillings):
    """The ties of a set of fillings: the bundles of the finest partition by which it falls apart."""
    places = tuple(range(len(fillings[0])))
    bundles = []
    while len(places) > 0:
        bundle = _first_bundle(fillings, places)
        bundles.append(bundle)
        places = tuple([place for place in places if place not in bundle])
    return tuple(bundles)


def _first_bundle(fillings, places):
    """The bundle of the first one of some places, of which no bundle goes beyond them."""
    first = places[0]
    others = list(places[1:])
    whole = _many_at(fillings, places)
    for many in range(len(others)):
        for chosen in combinations(others, many):
            bundle = (first,) + chosen
            rest = tuple([place for place in others if place not in chosen])
            if _many_at(fillings, bundle) * _many_at(fillings, rest) == whole:
                return bundle
    return places


def _many_at(fillings, places):
    """How many different things stand at some places of fillings."""
    return len({tuple([filling[place] for place in places]) for filling in fillings})
