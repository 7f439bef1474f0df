"""Tables: their least boundaries, the chains that show these, and their strips [20]."""

from hushedpages.errors import TooWide
from hushedpages.strips import bare, blank_strip, joined, placed, word_strip


def boundaries(tracks, cells):
    """The least boundaries of a table."""
    demands = _demands(tracks, cells)
    found = [0]
    for behind in range(1, tracks + 1):
        found.append(max([found[ahead] + demands[ahead, behind] for ahead in range(behind)
                          if (ahead, behind) in demands]))
    return tuple(found)


def chain_of(tracks, cells, boundary):
    """The least chain that shows the value of a boundary."""
    demands = _demands(tracks, cells)
    # For each boundary ahead of this one, the greatest sum of a chain from it to this one.
    rests = {boundary: 0}
    for ahead in reversed(range(boundary)):
        rests[ahead] = max([demands[ahead, behind] + rests[behind] for behind in range(ahead + 1, boundary + 1)
                            if (ahead, behind) in demands])
    chain = [0]
    while chain[-1] != boundary:
        ahead = chain[-1]
        behind = ahead + 1
        while (ahead, behind) not in demands or demands[ahead, behind] + rests[behind] < rests[ahead]:
            behind += 1
        chain.append(behind)
    return tuple(chain)


def judge_chain(tracks, cells, boundary, value, chain):
    """Whether a chain is a right paper that a boundary cannot be less than a value."""
    if len(chain) == 0 or chain[0] != 0 or chain[-1] != boundary:
        return False
    demands = _demands(tracks, cells)
    total = 0
    for ahead, behind in zip(chain, chain[1:]):
        if (ahead, behind) not in demands:
            return False
        total += demands[ahead, behind]
    return total == value


def table_strips(style, rows):
    """The strips of a table, one for each of its rows."""
    return bare(traced_table(style, rows))


def traced_table(style, rows):
    """The strips of a table, with traces."""
    measure = style[0]
    table = [_cells_of(style, row) for row in rows]
    cells = [(track, span, len(strip[0])) for row in table for track, span, strip in row]
    bounds = boundaries(max([track + span for track, span, _ in cells]), cells)
    if bounds[-1] - 1 > measure:
        raise TooWide("table")
    return tuple([_row_strip(measure, bounds, row) for row in table])


def _demands(tracks, cells):
    """The direct demands, by the numbers of the two boundaries."""
    demands = {(track, track + 1): 1 for track in range(tracks)}
    for track, span, width in cells:
        sides = (track, track + span)
        demands[sides] = max(demands.get(sides, 1), width + 1)
    return demands


def _cells_of(style, row):
    """The cells of a row: for each the track at which it begins, its span, and the strip of its words."""
    found = []
    track = 0
    for span, words in row:
        found.append((track, span, _cell_strip(style, words)))
        track += span
    return found


def _cell_strip(style, words):
    """The strip of the words of a cell."""
    strips = []
    for word, struck in words:
        if len(strips) > 0:
            strips.append(blank_strip(1))
        strips.append(word_strip(style, word, struck))
    return joined(strips)


def _row_strip(measure, bounds, row):
    """The strip of a row of a table with these boundaries."""
    strips = []
    at = 0
    for track, _, strip in row:
        strips.append(blank_strip(bounds[track] - at))
        strips.append(strip)
        at = bounds[track] + len(strip[0])
    return placed(joined(strips), 0, measure)
