"""What holds whatever deeds are done [1], [16], [45]: small offices over rows of deeds that are drawn."""

import random
import unittest

from hushedpages.errors import NoStem, Untrue
from hushedpages.families import filling_of
from hushedpages.office import Office
from hushedpages.plans import finest, is_safe
from model import BOTH, CIRCLES, HERE, LONG, PLAIN, READERS, TIMES, WIDE, all_stems, random_deed
from scenes import all_plans, honest, plan_is_safe

BOOK = (("who", 2, (("a", "mn"), ("b", "o", "bw")), ("", "'s")), ("when", 2, (("1", "02"), ("7",)), ("", "th")))
STYLES = (PLAIN, WIDE)
RECORDS = (HERE, BOTH, TIMES, LONG)


class PromisesTest(unittest.TestCase):
    def office(self, stems, readers, circles):
        return Office(BOOK, STYLES, stems, readers=readers, circles=circles)

    def draw_deeds(self, dice, stems, readers, circles, many):
        """An office with a drawn row of deeds, none of them faulty."""
        office = self.office(stems, readers, circles)
        while len(office.deeds) < many:
            try:
                self.check_deed(office, random_deed(dice, BOOK, readers, RECORDS))
            except (NoStem, Untrue):
                pass
        return office

    def check_deed(self, office, deed):
        """Does a deed; the ways of each secret stay many enough, unless it is told to the circle."""
        circles = range(len(office.grounds.circles))
        before = {(circle, secret[0]): office.ways(circle, secret[0]) for circle in circles for secret in BOOK}
        if deed[0] != "news":
            self.check_plan(office, deed)
        office.act(deed)
        for circle in circles:
            for name, keep, _, _ in BOOK:
                if deed[0] != "news" and not self.is_told(office, circle, name):
                    self.assertGreaterEqual(office.ways(circle, name), min(keep, before[circle, name]))

    def is_told(self, office, circle, name):
        return any(notice[:2] == ("told", name) for reader in office.grounds.circles[circle]
                   for notice in office.notices(office.grounds.readers[reader]))

    def check_plan(self, office, deed):
        """No honest and safe plan has a lower level for any filling."""
        scene, views, plan, _ = office.plan_of(deed)
        self.assertEqual(plan, finest(scene, views))
        self.assertTrue(is_safe(scene, tuple(range(len(scene[0])))))
        if len(views[0]) ** len(views) <= 1024:
            for other in all_plans(views):
                if honest(views, other) and plan_is_safe(scene, views, other):
                    self.assertTrue(all(level <= later for level, later in zip(plan, other)))

    def test_what_a_circle_cannot_exclude(self):
        dice = random.Random(45)
        for _ in range(30):
            stems = dice.choice(all_stems(BOOK))
            readers = READERS[:dice.randrange(1, 4)]
            circles = tuple(circle for circle in CIRCLES if set(circle) <= set(readers))
            office = self.draw_deeds(dice, stems, readers, circles, dice.randrange(1, 7))
            ruled = [deed[1:] for deed in office.deeds if deed[0] == "news"]
            others = []
            for other in all_stems(BOOK):
                if not any((secret[0], stem) in ruled for secret, stem in zip(BOOK, other)):
                    made = self.office(other, readers, circles)
                    made.again(office.deeds)
                    others.append((other, made))
            for circle, names in enumerate(tuple((name,) for name in readers) + circles):
                expected = {other for other, made in others
                            if all(made.notices(name) == office.notices(name) for name in names)}
                possible = [office.possible(circle, k) for k in range(office.many(circle))]
                self.assertEqual(len(possible), len(set(possible)))
                self.assertEqual(set(possible), expected)
                self.assertEqual({filling_of(BOOK, STYLES, other) for other in expected}, set(office.known(circle)))

    def test_offices_whose_true_stems_have_the_same_shapes(self):
        dice = random.Random(46)
        rows = {}
        for stems in all_stems(BOOK):
            rows.setdefault(filling_of(BOOK, STYLES, stems), []).append(stems)
        pairs = [row for row in rows.values() if len(row) > 1]
        self.assertGreater(len(pairs), 2)
        for row in pairs:
            for _ in range(3):
                deeds = [random_deed(dice, BOOK, READERS, RECORDS) for _ in range(6)]
                offices = [self.office(stems, READERS, CIRCLES) for stems in row]
                for deed in deeds:
                    if deed[0] != "news":
                        notices = [office.act(deed) for office in offices]
                        # But for the stem that is told, they give the same copies, answers and refusals.
                        self.assertEqual([notice[:2] if notice[0] == "told" else notice for notice in notices],
                                         [notices[0][:2] if notices[0][0] == "told" else notices[0]] * len(row))
                self.assertEqual([office.known(3) for office in offices], [offices[0].known(3)] * len(row))

    def test_equal_deeds_give_equal_results(self):
        dice = random.Random(47)
        for stems in dice.sample(all_stems(BOOK), 4):
            office = self.draw_deeds(dice, stems, READERS, CIRCLES, 5)
            other = self.office(stems, READERS, CIRCLES)
            # However often, and in whatever order, something else is asked meanwhile.
            for deed in office.deeds:
                if deed[0] != "news":
                    other.plan_of(deed)
                other.tried(office.deeds[:2] if not other.deeds else ())
                other.act(deed)
            for name in READERS:
                self.assertEqual(office.notices(name), other.notices(name))
            self.assertEqual([office.known(circle) for circle in range(5)], [other.known(circle) for circle in range(5)])


if __name__ == "__main__":
    unittest.main()
