"""Joint shapes of stems, and the stems of each of them with their exact numbers [14]."""

from hushedpages.errors import NoStem, TooMany
from hushedpages.growths import MOST_SHAPES, Additions, Growth
from hushedpages.shapes import shape_of
from hushedpages.stocks import place_in


def joint_shape(styles, secret, stem):
    """The joint shape of a stem: for each style the shape of the word with each ending."""
    return tuple([tuple([shape_of(style, stem + ending) for ending in secret[3]]) for style in styles])


def shapes_of(styles, secret):
    """The shapes of a secret, ascending, each with its number of stems."""
    return Shaped(styles, secret).shapes


def stem_with(styles, secret, shape, k):
    """The stem number k among those with this number of a shape."""
    return Shaped(styles, secret).stem_with(shape, k)


def place_with(styles, secret, stem):
    """The number of a stem's shape, and its number among the stems with this shape."""
    return Shaped(styles, secret).place_with(stem)


class Shaped:
    """The stems of a secret by their joint shapes; shapes has each of these with its number of stems."""

    def __init__(self, styles, secret):
        self.styles = styles
        self.secret = secret
        additions = Additions(styles)
        # For each pattern its growth, and the joint shapes of the nodes that its stems come to.
        self.growths = []
        many = {}
        for pattern in secret[2]:
            growth = Growth(additions, pattern, secret[3])
            told = [joint_shape(styles, secret, stem) for stem in growth.firsts]
            self.growths.append((growth, told))
            for shape, stems in zip(told, growth.node_counts()):
                many[shape] = many.get(shape, 0) + stems
            if len(many) > MOST_SHAPES:
                raise TooMany("shapes")
        self.shapes = tuple([(shape, many[shape]) for shape in sorted(list(many))])

    def stem_with(self, number, k):
        """The stem number k among those with this number of a shape."""
        shape = self.shapes[number][0]
        at = 0
        rests = self.rests_of(at, shape)
        while k >= rests[0][0]:
            k -= rests[0][0]
            at += 1
            rests = self.rests_of(at, shape)
        return self.growths[at][0].stem_at(rests, k)

    def all_stems(self):
        """For each shape all its stems, in the order of the stock; not for a stock of very many stems."""
        rows = []
        for shape, _ in self.shapes:
            stems = []
            for at, (growth, _) in enumerate(self.growths):
                rests = self.rests_of(at, shape)
                stems.extend([growth.stem_at(rests, k) for k in range(rests[0][0])])
            rows.append(stems)
        return rows

    def place_with(self, stem):
        """The number of a stem's shape, and its number among the stems with this shape."""
        stock = self.secret[2]
        if place_in(stock, stem) is None:
            raise NoStem(stem)
        at = 0
        while place_in(stock[at:at + 1], stem) is None:
            at += 1
        shape = joint_shape(self.styles, self.secret, stem)
        ahead = sum([self.rests_of(earlier, shape)[0][0] for earlier in range(at)])
        number = [told for told, _ in self.shapes].index(shape)
        return number, ahead + self.growths[at][0].place_of(self.rests_of(at, shape), stem)

    def rests_of(self, at, shape):
        """In how many ways the nodes of pattern number at go on to stems of a joint shape."""
        growth, told = self.growths[at]
        return growth.rests([1 if other == shape else 0 for other in told])
