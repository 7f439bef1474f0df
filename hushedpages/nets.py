"""Nets, their least ways, and papers that no way is lesser [17]."""


def least_way(net):
    """The least total and the least way of a net, None if there is no way."""
    bounds, tails = _bounds_and_tails(net)
    if bounds[-1] is None:
        return None
    way = [net[0] - 1]
    while way[-1] != 0:
        way.append(tails[way[-1]])
    return bounds[-1], tuple(way[::-1])


def bounds_of(net):
    """For each node the least total of a way from node 0 to it, None if there is none."""
    return tuple(_bounds_and_tails(net)[0])


def judge_bounds(net, total, bounds):
    """Whether bounds are a right paper that no way of a net has a lesser total, or that there is no way."""
    many, arcs = net
    if len(bounds) != many or bounds[0] != 0 or bounds[-1] != total:
        return False
    for tail, head, cost in arcs:
        if bounds[tail] is not None and (bounds[head] is None or bounds[head] > bounds[tail] + cost):
            return False
    return True


def _bounds_and_tails(net):
    """The bounds of a net, and for each node the least tail of an arc by which its least total is reached."""
    many, arcs = net
    bounds = [0] + [None] * (many - 1)
    tails = [None] * many
    # Arcs come with ascending tails. So a bound is final ahead of the arcs that begin at its node, and of
    # several arcs by which it is reached the one with the least tail comes first.
    for tail, head, cost in arcs:
        if bounds[tail] is not None:
            total = bounds[tail] + cost
            if bounds[head] is None or total < bounds[head]:
                bounds[head] = total
                tails[head] = tail
    return bounds, tails
