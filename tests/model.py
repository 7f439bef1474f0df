"""An office that is made word by word as the document tells, for small books; and what the tests of offices share."""

import itertools

from hushedpages.blocks import record_of
from hushedpages.books import filled
from hushedpages.columns import least_columns
from hushedpages.curtains import Curtains
from hushedpages.families import family, filling_of, first_stems
from hushedpages.flows import flow_of, stack_of
from hushedpages.joint import joint_shape, shapes_of
from hushedpages.looks import look_with
from hushedpages.plans import finest
from hushedpages.sheets import settled
from hushedpages.stocks import stem_at, stems_many
from scenes import ways

PLAIN = (12, 3, 1, (), (), (), (0, 0, 0, 0, 0))
WIDE = (10, 4, 2, (("m", 2), ("w", 3)), (("m", "a", 1),), (("o", "b", 0), ("o", "w", 0)), (0, 0, 0, 0, 0))
WHO = ("who", 3, (("a", "mn"), ("b", "o", "bw"), ("z",)), ("", "'s"))
WHEN = ("when", 2, (("1", "023"), ("7",)), ("", "th"))
BOOK = (WHO, WHEN)
STYLES = (PLAIN, WIDE)
READERS = ("ann", "ben", "cid")
CIRCLES = (("ann", "ben"), ("cid", "ann", "ben"))

HERE = record_of("@par{@hole{who} x}")
BOTH = record_of("@head{on @hole{when}} @par{a @hole{who}{1} b @page{end}} @label{end} @par{@hole{when}{1}}")
TIMES = record_of("@table{@row{@cell{@hole{when}} @cell{x}}} @label{low} @par{c}")
LONG = record_of("@par{@hole{who} aaaaaaaaaa @hole{when}} @label{y} @par{@hole{who}{1} c}")
ROWS = (("wide", 1), ("even", 4), ("rows",))


def all_stems(book):
    return list(itertools.product(*[[stem_at(secret[2], k) for k in range(stems_many(secret[2]))] for secret in book]))


def entries_ahead(record, style, numbers, at):
    """The number of the first entry of a block, found by a mark that is put at its beginning."""
    plain = flow_of(record, style, numbers)[0]
    marked = record[:at] + (("par", (("say", "q"),)),) + record[at:]
    for number, entry in enumerate(flow_of(marked, style, numbers)[0]):
        if number >= len(plain) or entry is None and plain[number] is not None or entry is not None and (
                plain[number] is None or entry[0] != plain[number][0]):
            return number
    raise AssertionError("the mark stands nowhere")


def page_of_label(record, style, numbers, label):
    """The page of a label of a block with rows."""
    at = record.index(("label", label))
    while record[at][0] == "label":
        at += 1
    first = entries_ahead(record, style, numbers, at)
    states = least_columns(style[1], style[6][4], stack_of(flow_of(record, style, numbers)))
    column = [number for number, ((i, _), (j, _)) in enumerate(zip(states, states[1:])) if i <= first < j][0]
    return column // style[2] + 1


class Model:
    """An office; it keeps the notices for each reader and filling, and computes all else anew."""

    def __init__(self, book, styles, stems, readers, circles=()):
        self.book, self.styles, self.stems, self.readers = book, styles, stems, readers
        self.circles = tuple((name,) for name in readers) + tuple(circles)
        self.fillings = list(family(book, styles))
        self.truth = filling_of(book, styles, stems)
        self.given = {(reader, filling): () for reader in readers for filling in self.fillings}
        self.ruled = [[] for _ in book]

    def left(self, secret):
        """For each shape of a secret its stems that news has left, in the order of the stock."""
        shapes = [shape for shape, _ in shapes_of(self.styles, self.book[secret])]
        rows = [[] for _ in shapes]
        stock = self.book[secret][2]
        for k in range(stems_many(stock)):
            stem = stem_at(stock, k)
            if stem not in self.ruled[secret]:
                rows[shapes.index(joint_shape(self.styles, self.book[secret], stem))].append(stem)
        return rows

    def counts(self):
        return tuple(tuple(len(row) for row in self.left(secret)) for secret in range(len(self.book)))

    def alike(self, circle, filling):
        """The fillings that look to a circle like this one."""
        return tuple(other for other in self.fillings
                     if all(self.given[reader, other] == self.given[reader, filling] for reader in circle))

    def told(self, circle, secret, filling):
        """Whether a secret is open to a circle for a filling."""
        name = self.book[secret][0]
        return any(notice[:2] == ("told", name) for reader in circle for notice in self.given[reader, filling])

    def known(self, circle):
        return self.alike(self.circles[circle], self.truth)

    def ways(self, circle, name):
        secret = [told[0] for told in self.book].index(name)
        if self.told(self.circles[circle], secret, self.truth):
            return 1
        return ways(self.counts(), self.known(circle), secret)

    def possible(self, circle):
        """All tuples of stems that a circle cannot exclude, in their order."""
        rows = []
        for filling in self.known(circle):
            choices = [[self.stems[secret]] if self.told(self.circles[circle], secret, self.truth)
                       else self.left(secret)[shape] for secret, shape in enumerate(filling)]
            rows.extend(itertools.product(*choices))
        return rows

    def scene(self, reader, lot, unguarded=None):
        counts = self.counts()
        watches = []
        for circle in self.circles:
            if reader in circle:
                seen = [[self.given[other, filling] for other in circle if other != reader] for filling in lot]
                firsts = [told for at, told in enumerate(seen) if told not in seen[:at]]
                groups = tuple(firsts.index(told) for told in seen)
                guards = []
                for group in range(len(firsts)):
                    part = [filling for filling, number in zip(lot, groups) if number == group]
                    guards.append(tuple((secret, min(self.book[secret][1], ways(counts, part, secret)))
                                        for secret in range(len(self.book))
                                        if self.book[secret][0] != unguarded and not self.told(circle, secret, part[0])))
                watches.append((groups, tuple(guards)))
        return tuple(lot), counts, tuple(watches)

    def look(self, record, which, filling):
        return look_with(record, self.book, self.styles[which], first_stems(self.book, self.styles, filling))

    def answer(self, question, filling):
        stems = first_stems(self.book, self.styles, filling)
        if question[0] == "width":
            secret = [told[0] for told in self.book].index(question[1])
            return joint_shape(self.styles, self.book[secret], stems[secret])[question[3]][question[2]][0]
        record = filled(question[1], self.book, stems)
        sheets, numbers, _ = settled(record, self.styles[question[2]])
        if question[0] == "pages":
            return len(sheets)
        return page_of_label(record, self.styles[question[2]], numbers, question[3])

    def views(self, deed, filling, steps):
        if deed[0] == "tell":
            return filling[[told[0] for told in self.book].index(deed[2])], None
        if deed[0] == "ask":
            return self.answer(deed[2], filling), None
        return Curtains(steps)(self.look(deed[2], deed[3], filling))

    def seen(self, reader, lot, views, plan):
        total = 0
        for filling, looks, level in zip(lot, views, plan):
            product = 1
            for secret, shape in enumerate(filling):
                product *= 1 if self.told((reader,), secret, filling) else self.counts()[secret][shape]
            total += product * sum(sign != "#" for page in looks[level] for row in page for sign in row)
        return total

    def choice(self, deed, lot):
        """The number of the tuple of steps that is taken, the scene, the views and the plan for a lot."""
        scene = self.scene(deed[1], lot, deed[2] if deed[0] == "tell" else None)
        rows = deed[4] if deed[0] == "pick" else (deed[4],) if deed[0] == "hand" else (None,)
        found = []
        for row, steps in enumerate(rows):
            views = tuple(self.views(deed, filling, steps) for filling in lot)
            plan = finest(scene, views)
            seen = self.seen(deed[1], lot, views, plan) if len(rows) > 1 else 0
            found.append((-seen, row, scene, views, plan))
        return min(found, key=lambda told: told[:2])[1:]

    def act(self, deed):
        """Does a deed without faults; the notice."""
        if deed[0] == "news":
            secret = [told[0] for told in self.book].index(deed[1])
            self.ruled[secret].append(deed[2])
            empty = [shape for shape, many in enumerate(self.counts()[secret]) if many == 0]
            self.fillings = [filling for filling in self.fillings if filling[secret] not in empty]
            return None
        notices = {}
        for filling in self.fillings:
            lot = self.alike((deed[1],), filling)
            row, _, views, plan = self.choice(deed, lot)
            level = plan[lot.index(filling)]
            notices[filling] = self.notice(deed, row, level, views[lot.index(filling)][level], filling)
        for filling in self.fillings:
            self.given[deed[1], filling] += (notices[filling],)
        return notices[self.truth]

    def notice(self, deed, row, level, value, filling):
        if deed[0] == "hand":
            return "copy", level, value
        if deed[0] == "pick":
            return "picked", row, level, value
        if level == 1:
            return ("refused",)
        if deed[0] == "ask":
            return "answer", value
        secret = [told[0] for told in self.book].index(deed[2])
        if filling[secret] == self.truth[secret]:
            return "told", deed[2], self.stems[secret]
        return "told", deed[2], self.left(secret)[filling[secret]][0]


def random_deed(dice, book, readers, records, styles=2):
    """A deed, which may have the fault of news that cannot be."""
    kind = dice.choice(("hand", "hand", "pick", "tell", "ask", "ask", "news"))
    reader = dice.choice(readers)
    secret = dice.choice(book)
    record = dice.choice(records)
    which = dice.randrange(styles)
    if kind == "hand":
        return kind, reader, record, which, random_steps(dice)
    if kind == "pick":
        return kind, reader, record, which, tuple(random_steps(dice) for _ in range(dice.randrange(1, 4)))
    if kind == "tell":
        return kind, reader, secret[0]
    if kind == "news":
        return kind, secret[0], stem_at(secret[2], dice.randrange(stems_many(secret[2])))
    labels = [block[1] for block in record if block[0] == "label"]
    questions = [("pages", record, which), ("width", secret[0], dice.randrange(len(secret[3])), which)]
    return kind, reader, dice.choice(questions + [("page", record, which, label) for label in labels])


def random_steps(dice):
    steps = (("wide", 1), ("wide", 4), ("even", 3), ("rows",), ("blocks",), ("pages",), ("below",), ("all",), ("keep", 1))
    return tuple(dice.choice(steps) for _ in range(dice.randrange(4)))
