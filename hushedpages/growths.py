"""The stems of a pattern, grown slot by slot, so that very many of them need not be gone through one by one [14].

Behind each slot stand nodes. Two beginnings of stems come to one node if nothing tells them apart: whatever
follows them adds the same to both, and the shapes of what stands so far are the same. Beginnings that only
differ in these shapes have, with one and the same rest, words of different shapes. So if more of them than
there may be shapes come to nodes of one kind, then there are too many shapes, however many stems there are.

A word can be parted ahead of the last character of its stem only if an ending follows. If some endings are
empty and others are not, then a parting there is one of some words of the stem only, and it is told apart from
a parting of all words, also where both have the same widths and the same price.
"""

from hushedpages.errors import TooMany
from hushedpages.styles import break_price, cut_of, width_of

MOST_SHAPES = 64

# Which words of a stem can be parted at a place: those with any ending, or those with some endings only.
ALL_WORDS = 1
SOME_WORDS = 0


class Additions:
    """What characters add to the shape of a word, in all styles at once. Equal additions have one number."""

    def __init__(self, styles):
        self.styles = styles
        self.told = []
        self.numbers = {}
        self.found = {}

    def number(self, ahead, sign, parted):
        """The number of what a character adds behind another one; parted: which words can be, None if no word."""
        key = ahead, sign, parted
        if key not in self.found:
            addition = tuple([_addition(style, ahead, sign, parted) for style in self.styles])
            if addition not in self.numbers:
                self.numbers[addition] = len(self.told)
                self.told.append(addition)
            self.found[key] = self.numbers[addition]
        return self.found[key]


class Layer:
    """The nodes behind a slot: of which kind each is, its sizes, and the first beginning that came to it.

    Kinds tells for each kind what the characters that can follow add. The sizes are, for each style, a pair:
    the width so far, and for each parting so far its left width, the cut that it saves, its price, and which
    words it parts.
    """

    def __init__(self, kinds):
        self.kinds = kinds
        self.nodes = []
        self.numbers = {}
        self.many = [0] * len(kinds)

    def number(self, kind, sizes, beginning):
        """The number of a node, which is made if the beginning is the first one that comes to it."""
        key = kind, sizes
        if key not in self.numbers:
            if self.many[kind] == MOST_SHAPES:
                raise TooMany("shapes")
            self.many[kind] += 1
            self.numbers[key] = len(self.nodes)
            self.nodes.append((kind, sizes, beginning))
        return self.numbers[key]


class Growth:
    """The stems of one pattern: the nodes that they come to, slot by slot.

    Paths tells, for each slot and each node ahead of it, the nodes to which its characters lead. Firsts are the
    first stems of the nodes behind the last slot.
    """

    def __init__(self, additions, pattern, endings):
        self.additions = additions
        self.pattern = pattern
        self.endings = endings
        self.paths = []
        layer = Layer([self.added_behind("", 0)])
        layer.number(0, ((0, ()),) * len(additions.styles), "")
        for at in range(len(pattern)):
            layer = self.grown(layer, at)
        self.firsts = tuple([beginning for _, _, beginning in layer.nodes])

    def added_behind(self, sign, place):
        """What the characters that can stand at this place add behind a character; those of endings, too."""
        if place < len(self.pattern):
            parted = self.parted_at(place)
            return tuple([self.additions.number(sign, later, parted) for later in self.pattern[place]])
        # Each ending belongs to words of its own, so here it is told for these alone.
        return tuple([self.additions.number(sign, ending[:1], ALL_WORDS if place >= 2 and len(ending) >= 2 else None)
                      for ending in self.endings])

    def parted_at(self, place):
        """Which words of a stem can be parted at a place within the stem, None if no word."""
        if place < 2:
            return None
        able = [len(self.pattern) + len(ending) - place >= 2 for ending in self.endings]
        if all(able):
            return ALL_WORDS
        return SOME_WORDS if any(able) else None

    def grown(self, layer, at):
        """The layer behind slot number at, from the one ahead of it."""
        rows = [self.added_behind(sign, at + 1) for sign in self.pattern[at]]
        numbers = {}
        for row in rows:
            numbers.setdefault(row, len(numbers))
        kinds = [numbers[row] for row in rows]
        behind = Layer(list(numbers))
        self.paths.append([self.heads_of(node, layer, behind, kinds, at) for node in list(layer.nodes)])
        return behind

    def heads_of(self, node, layer, behind, kinds, at):
        """The nodes of the layer behind slot number at to which its characters lead from a node."""
        kind, sizes, beginning = node
        larger = {}
        heads = []
        for sign, number, later_kind in zip(self.pattern[at], layer.kinds[kind], kinds):
            if number not in larger:
                larger[number] = _larger_sizes(sizes, self.additions.told[number])
            heads.append(behind.number(later_kind, larger[number], beginning + sign))
        return heads

    def node_counts(self):
        """For each node behind the last slot, how many stems come to it."""
        many = [1]
        for steps in self.paths:
            later = [0] * (1 + max([max(heads) for heads in steps]))
            for ways, heads in zip(many, steps):
                for head in heads:
                    later[head] += ways
            many = later
        return many

    def rests(self, chosen):
        """For each slot, and behind the last one: for each node, in how many ways it goes on to chosen nodes.

        Chosen has a 1 for each chosen node behind the last slot, and a 0 for each other one.
        """
        rests = [chosen]
        for steps in reversed(self.paths):
            later = rests[-1]
            rests.append([sum([later[head] for head in heads]) for heads in steps])
        return rests[::-1]

    def stem_at(self, rests, k):
        """The stem number k, fewer than there are, of those that come to the chosen nodes of these rests."""
        signs = []
        node = 0
        for slot, steps, later in zip(self.pattern, self.paths, rests[1:]):
            at = 0
            while k >= later[steps[node][at]]:
                k -= later[steps[node][at]]
                at += 1
            signs.append(slot[at])
            node = steps[node][at]
        return "".join(signs)

    def place_of(self, rests, stem):
        """The number of a stem of the pattern among those that come to the chosen nodes of these rests."""
        place = 0
        node = 0
        for sign, slot, steps, later in zip(stem, self.pattern, self.paths, rests[1:]):
            at = slot.find(sign)
            place += sum([later[head] for head in steps[node][:at]])
            node = steps[node][at]
        return place


def _addition(style, ahead, sign, parted):
    """What a character adds behind another one: its width, the cut, and the price if words can be parted there."""
    width = width_of(style, sign) if sign != "" else 0
    cut = cut_of(style, ahead, sign)
    price = break_price(style, ahead, sign) if parted is not None else None
    return width, cut, price, parted if price is not None else None


def _larger_sizes(sizes, addition):
    """The sizes, one for each style, with what one more character adds."""
    return tuple([_larger_size(size, added) for size, added in zip(sizes, addition)])


def _larger_size(size, added):
    """The size in one style with what one more character adds."""
    width, partings = size
    more, cut, price, parted = added
    if price is not None:
        partings = partings + ((width + 1, cut, price, parted),)
    return width + more - cut, partings
