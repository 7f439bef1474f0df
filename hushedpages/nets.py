"""Nets, their least ways, and papers that no way is lesser [17]."""


def least_way(net):
    """The least total and the least way of a net, None if there is no way."""
    leading = _leading(net)
    return least_way_along(list(range(net[0])), lambda node: leading[node])


def bounds_of(net):
    """For each node the least total of a way from node 0 to it, None if there is none."""
    leading = _leading(net)
    nodes = list(range(net[0]))
    bounds = _bounds_and_tails(nodes, lambda node: leading[node])[0]
    return tuple([bounds.get(node) for node in nodes])


def judge_bounds(net, total, bounds):
    """Whether bounds are a right paper that no way of a net has a lesser total, or that there is no way."""
    many, arcs = net
    if len(bounds) != many or bounds[0] != 0 or bounds[-1] != total:
        return False
    for tail, head, cost in arcs:
        if bounds[tail] is not None and (bounds[head] is None or bounds[head] > bounds[tail] + cost):
            return False
    return True


def least_way_along(places, leads):
    """The least total and the least way from the first of some places to the last one, None if there is no way.

    The places ascend, and leads tells of a place, but not of the last one, to which later ones arcs lead from it,
    each with its cost.
    """
    bounds, tails = _bounds_and_tails(places, leads)
    if places[-1] not in bounds:
        return None
    way = [places[-1]]
    while way[-1] in tails:
        way.append(tails[way[-1]])
    return bounds[places[-1]], tuple(way[::-1])


def _leading(net):
    """For each node of a net the arcs that lead from it, as pairs of the head and the cost."""
    many, arcs = net
    leading = [[] for _ in range(many)]
    for tail, head, cost in arcs:
        leading[tail].append((head, cost))
    return leading


def _bounds_and_tails(places, leads):
    """The least totals of the places that are reached, and the least tails by which these totals are reached."""
    bounds = {places[0]: 0}
    tails = {}
    # A total is final ahead of the arcs that lead from its place, as all arcs lead to later places; and of several
    # tails by which it is reached the least one comes first.
    for tail in places[:-1]:
        if tail in bounds:
            for head, cost in leads(tail):
                total = bounds[tail] + cost
                if head not in bounds or total < bounds[head]:
                    bounds[head] = total
                    tails[head] = tail
    return bounds, tails
