"""Formulas: their boxes, and displayed formulas [21]. A box is a pair: how many strips it has above its base row,
and its strips, all of one width."""

from hushedpages.errors import TooWide
from hushedpages.pieces import struck_of
from hushedpages.strips import bare, blank_strip, joined, placed, plain_strip, word_strip


def box_of(style, formula):
    """The box of a formula."""
    up, strips = _traced_box(style, formula)
    return up, bare(strips)


def shown(style, formula):
    """The strips of a displayed formula."""
    return bare(traced_show(style, formula))


def traced_show(style, formula):
    """The strips of a displayed formula, with traces."""
    measure = style[0]
    box = _traced_box(style, formula)
    left = (measure - _width(box)) // 2
    if left < 0:
        raise TooWide("formula")
    return tuple([placed(strip, left, measure) for strip in box[1]])


def _traced_box(style, formula):
    """The box of a formula, with traces."""
    boxes = []
    for part in formula:
        if len(boxes) > 0 and part[0] not in ("up", "low"):
            boxes.append(_gap())
        boxes.append(_part_box(style, part))
    return _beside(boxes)


def _gap():
    """The box of one blank between two others."""
    return 0, (blank_strip(1),)


def _width(box):
    """The width of a box."""
    return len(box[1][0][0])


def _part_box(style, part):
    """The box of a part of a formula."""
    kind = part[0]
    if kind in ("say", "hid"):
        return 0, (word_strip(style, part[1], struck_of(part)),)
    if kind == "grid":
        return _grid_box([[_traced_box(style, formula) for formula in line] for line in part[1]])
    box = _traced_box(style, part[1])
    if kind == "over":
        return _over_box(box, _traced_box(style, part[2]))
    if kind == "up":
        return len(box[1]), box[1] + (blank_strip(_width(box)),)
    if kind == "low":
        return 0, (blank_strip(_width(box)),) + box[1]
    return box[0], tuple([joined([plain_strip("("), strip, plain_strip(")")]) for strip in box[1]])


def _over_box(box, other):
    """The box of one box over another one."""
    width = max(_width(box), _width(other))
    return len(box[1]), _middle(box, width) + (plain_strip("-" * width),) + _middle(other, width)


def _middle(box, width):
    """The strips of a box in the middle of strips of this width."""
    return tuple([placed(strip, (width - _width(box)) // 2, width) for strip in box[1]])


def _grid_box(lines):
    """The box of a grid with these lines of boxes."""
    tracks = [max([_width(line[at]) for line in lines]) for at in range(len(lines[0]))]
    strips = []
    for line in lines:
        boxes = []
        for box, width in zip(line, tracks):
            if len(boxes) > 0:
                boxes.append(_gap())
            boxes.append((box[0], tuple([placed(strip, 0, width) for strip in box[1]])))
        strips.extend(_beside(boxes)[1])
    return (len(strips) - 1) // 2, tuple(strips)


def _beside(boxes):
    """The box of boxes side by side, with their base rows in one row."""
    up = max([above for above, _ in boxes])
    low = max([len(strips) - above for above, strips in boxes])
    return up, tuple([joined([_strip_at(box, row) for box in boxes]) for row in range(-up, low)])


def _strip_at(box, row):
    """The strip of a box in a row, counted from its base row, which is blank above and below the box."""
    up, strips = box
    if 0 <= up + row < len(strips):
        return strips[up + row]
    return blank_strip(_width(box))
