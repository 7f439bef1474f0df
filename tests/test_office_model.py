"""Offices against an office that is made word by word [38] to [44], [41]."""

import random
import unittest

from hushedpages.charts import ties_of
from hushedpages.errors import NoStem, PagesError, Untrue
from hushedpages.office import Office
from hushedpages.plancheck import judge_plan
from hushedpages.plans import reasons_of
from model import BOOK, BOTH, CIRCLES, HERE, LONG, READERS, STYLES, TIMES, Model, all_stems, random_deed

RECORDS = (HERE, BOTH, TIMES, LONG)


class ModelTest(unittest.TestCase):
    def check_state(self, office, model):
        self.assertEqual(office.fillings_left(), tuple(model.fillings))
        self.assertEqual(office.counts_left(), model.counts())
        for reader in model.readers:
            self.assertEqual(office.notices(reader), model.given[reader, model.truth])
            for filling in model.fillings:
                self.assertEqual(office.would(reader, filling), model.given[reader, filling])
        for circle in range(len(model.circles)):
            known = model.known(circle)
            self.assertEqual(office.known(circle), known)
            self.assertEqual(office.ties(circle), ties_of(known))
            for secret in model.book:
                self.assertEqual(office.ways(circle, secret[0]), model.ways(circle, secret[0]))
            possible = model.possible(circle)
            self.assertEqual(office.many(circle), len(possible))
            self.assertEqual([office.possible(circle, k) for k in range(len(possible))], possible)

    def check_plan(self, office, model, deed):
        scene, views, plan, paper = office.plan_of(deed)
        lot = model.alike((deed[1],), model.truth)
        self.assertEqual((scene, views, plan), model.choice(deed, lot)[1:])
        self.assertEqual(paper, reasons_of(scene, views))
        self.assertTrue(judge_plan(scene, views, plan, paper))

    def run_row(self, dice, many):
        stems = dice.choice(all_stems(BOOK))
        readers = READERS[:dice.randrange(1, 4)]
        circles = tuple(circle for circle in CIRCLES if set(circle) <= set(readers))
        office = Office(BOOK, STYLES, stems, readers=readers, circles=circles)
        model = Model(BOOK, STYLES, stems, readers, circles)
        self.check_state(office, model)
        done = ()
        for _ in range(many):
            deed = random_deed(dice, BOOK, readers, RECORDS)
            if deed[0] == "news" and (deed[2] in stems or deed[2] in model.ruled[0] + model.ruled[1]):
                with self.assertRaises((NoStem, Untrue)):
                    office.act(deed)
            else:
                if deed[0] != "news":
                    self.check_plan(office, model, deed)
                self.assertEqual(office.act(deed), model.act(deed))
                done += (deed,)
            self.assertEqual(office.deeds, done)
            self.check_state(office, model)
        return done

    def test_random_rows_of_deeds(self):
        dice = random.Random(38)
        kinds = {}
        for _ in range(14):
            for deed in self.run_row(dice, 7):
                kinds[deed[0]] = kinds.get(deed[0], 0) + 1
        self.assertEqual(len(kinds), 5)

    def test_errors_stand_under_one_class(self):
        with self.assertRaises(PagesError):
            Office(BOOK, STYLES, ("no", "no"), readers=("ann",))


if __name__ == "__main__":
    unittest.main()
