"""Lines: the net of the lines that fit into a measure, and the least ones [18]. Words are given by their shapes."""

from hushedpages.errors import TooWide
from hushedpages.nets import least_way_along
from hushedpages.shapes import piece_width


def positions(shapes):
    """The positions in a row of words, ascending."""
    found = [(at, parting) for at, (_, partings) in enumerate(shapes) for parting in range(len(partings) + 1)]
    return tuple(found + [(len(shapes), 0)])


def line_net(measure, ladder, shapes):
    """The net of the positions in a row of words, with an arc for each line that fits."""
    places = positions(shapes)
    numbers = {place: number for number, place in enumerate(places)}
    arcs = []
    for tail, begin in enumerate(places[:-1]):
        arcs.extend([(tail, numbers[end], cost) for end, cost in _lines_from(measure, ladder, shapes, begin)])
    return len(places), tuple(arcs)


def least_lines(measure, ladder, shapes):
    """The positions at which the lines of a row of words begin and end."""
    least = least_way_along(positions(shapes), lambda begin: _lines_from(measure, ladder, shapes, begin))
    if least is None:
        raise TooWide("word")
    return least[1]


def _lines_from(measure, ladder, shapes, begin):
    """The lines that fit and begin at a position: where each ends, ascending, and its cost."""
    ends = _ends_from(measure, shapes, begin)
    return [(end, _cost(measure, ladder, shapes, begin, end, width)) for end, width in ends]


def _ends_from(measure, shapes, begin):
    """The lines that fit and begin at a position: where each ends, ascending, and its natural width."""
    first, parting = begin
    found = []
    # What the pieces ahead of word number at take up, with a blank behind each of them.
    ahead = 0
    for at in range(first, len(shapes)):
        if at > first:
            # Each further piece adds to this width. (But in a word, a longer piece can be narrower.)
            if ahead - 1 > measure:
                return found
            found.append(((at, 0), ahead - 1))
            parting = 0
        for last in range(parting + 1, len(shapes[at][1]) + 1):
            width = ahead + piece_width(shapes[at], parting, last)
            if width <= measure:
                found.append(((at, last), width))
        ahead += piece_width(shapes[at], parting, 0) + 1
    if ahead - 1 <= measure:
        found.append(((len(shapes), 0), ahead - 1))
    return found


def _cost(measure, ladder, shapes, begin, end, width):
    """The cost of a line that fits."""
    if end[0] == len(shapes):
        return 0
    cost = (measure - width) * (measure - width)
    at, parting = end
    if parting > 0:
        cost += shapes[at][1][parting - 1][2]
        if begin[1] > 0:
            cost += ladder
    return cost
