"""Papers of plans, and their judge [35]."""

import random
import unittest

from hushedpages.plancheck import judge_plan
from hushedpages.plans import careless, finest, reasons_of
from scenes import all_plans, honest, is_reason, plan_is_safe, published_above, random_scene, random_views

THREE = (((0,), (1,), (2,)), ((1, 1, 1),), (((0, 0, 0), (((0, 2),),)),))
VIEWS = (("x", 0), ("x", 0), ("y", 0))
# Two classes are published at level 1, as a part of each has too few ways in a group.
GROUPS = ((0, 0, 1, 1, 1, 1), (((0, 2),), ((0, 2), (1, 1))))
SIX = (tuple((k, 0) for k in range(6)), ((1,) * 6, (1,)), (((0,) * 6, ((),)), GROUPS))
SIX_VIEWS = ((0, "a", None), (1, "a", None), (2, "b", None), (2, "b", None), (3, "b", None), (3, "a", None))


def triples(scene):
    """All triples with numbers that there are, and some beside them."""
    many, watches, secrets = len(scene[0]), len(scene[2]), len(scene[1])
    return [(k, watch, secret) for k in range(-1, many + 1) for watch in range(-1, watches + 1) for secret in range(-1, secrets + 1)]


class PapersTest(unittest.TestCase):
    def test_the_scene_of_the_document(self):
        self.assertEqual(reasons_of(THREE, VIEWS), ((2, 0, 0),))
        self.assertIs(judge_plan(THREE, VIEWS, (1, 1, 1), ((2, 0, 0),)), True)

    def test_plans_without_reasons(self):
        views = (("x", 0),) * 3
        self.assertEqual(reasons_of(THREE, views), ())
        self.assertIs(judge_plan(THREE, views, (0, 0, 0), ()), True)
        self.assertIs(judge_plan(THREE, views, (0, 0, 0), ((0, 0, 0),)), False)
        self.assertIs(judge_plan(THREE, views, (1, 1, 1), ()), False)
        self.assertIs(judge_plan(THREE, views, (1, 1, 1), ((0, 0, 0),)), False)

    def test_two_published_classes(self):
        scene = (tuple((k,) for k in range(4)), ((1,) * 4,), (((0, 0, 1, 1), (((0, 2),), ((0, 2),))),))
        views = ((0, "a", None), (1, "a", None), (2, "b", None), (3, "b", None))
        self.assertEqual(finest(scene, views), (1, 1, 1, 1))
        self.assertEqual(reasons_of(scene, views), ((0, 0, 0), (2, 0, 0)))
        for paper in (((0, 0, 0), (2, 0, 0)), ((1, 0, 0), (2, 0, 0)), ((1, 0, 0), (3, 0, 0))):
            self.assertIs(judge_plan(scene, views, (1, 1, 1, 1), paper), True)
        # Too few, too many, in another order, twice for one class, none for one class.
        for paper in ((), ((0, 0, 0),), ((2, 0, 0),), ((0, 0, 0), (2, 0, 0), (3, 0, 0)), ((2, 0, 0), (0, 0, 0)),
                      ((0, 0, 0), (1, 0, 0)), ((0, 0, 0), (2, 0, 0), ()), ((0, 0, 0), ())):
            self.assertIs(judge_plan(scene, views, (1, 1, 1, 1), paper), False)

    def test_numbers_that_there_are_not(self):
        for reason in ((3, 0, 0), (-1, 0, 0), (2, 1, 0), (2, -1, 0), (2, 0, 1), (2, 0, -1), (1000000, 0, 0), (2, 1000000, 0),
                       (2, 0, -1000000), (-1000000, -1000000, -1000000), (0, 0, 0), (1, 0, 0)):
            self.assertIs(judge_plan(THREE, VIEWS, (1, 1, 1), (reason,)), False)

    def test_reasons_of_another_number_of_integers(self):
        for reason in ((), (2,), (2, 0), (2, 0, 0, 0), (2, 0, 0, 0, 0)):
            self.assertIs(judge_plan(THREE, VIEWS, (1, 1, 1), (reason,)), False)

    def test_plans_of_a_wrong_length_or_with_levels_that_there_are_not(self):
        for plan in ((), (1,), (1, 1), (1, 1, 1, 1), (2, 2, 2), (-1, -1, -1), (1, 1, 2), (1, 1, -1), (1000000,) * 3, (-1000000,) * 3):
            for paper in ((), ((2, 0, 0),), ((0, 0, 0),), ((2, 0, 0),) * 3):
                self.assertIs(judge_plan(THREE, VIEWS, plan, paper), False)

    def test_plans_that_are_not_honest_or_not_safe(self):
        for plan in ((0, 0, 0), (0, 0, 1), (1, 1, 0), (0, 1, 1)):
            for paper in ((), ((2, 0, 0),), ((2, 0, 0), (2, 0, 0)), ((1, 0, 0), (2, 0, 0))):
                self.assertIs(judge_plan(THREE, VIEWS, plan, paper), False)

    def test_the_least_reason(self):
        self.assertEqual(finest(SIX, SIX_VIEWS), (2,) * 6)
        self.assertEqual(reasons_of(SIX, SIX_VIEWS), ((5, 1, 0),))
        # The part of level 1 with the fillings 0, 1 and 5 lacks ways in the second group only.
        for reason in triples(SIX):
            self.assertIs(judge_plan(SIX, SIX_VIEWS, (2,) * 6, (reason,)), reason == (5, 1, 0))

    def test_random_papers(self):
        dice = random.Random(35)
        many = 0
        for _ in range(150):
            scene = random_scene(dice)
            views = random_views(dice, len(scene[0]))
            plan, paper = finest(scene, views), reasons_of(scene, views)
            self.assertIs(judge_plan(scene, views, plan, paper), True)
            classes = published_above(views, plan)
            self.assertEqual(len(classes), len(paper))
            for at, (level, members) in enumerate(classes):
                right = [reason for reason in triples(scene) if is_reason(scene, views, level, members, reason)]
                self.assertEqual(paper[at], min(right))
                for reason in triples(scene):
                    changed = paper[:at] + (reason,) + paper[at + 1:]
                    self.assertIs(judge_plan(scene, views, plan, changed), reason in right)
                many += len(right) > 1
            if len(paper) > 1:
                self.assertIs(judge_plan(scene, views, plan, paper[::-1]), False)
            self.assertIs(judge_plan(scene, views, plan, paper + (paper or ((0, 0, 0),))[-1:]), False)
        self.assertGreater(many, 20)

    def test_no_plan_but_the_finest(self):
        dice = random.Random(38)
        for _ in range(40):
            scene = random_scene(dice, 4)
            views = random_views(dice, len(scene[0]), 3)
            plan = finest(scene, views)
            for other in all_plans(views):
                if other == plan:
                    continue
                papers = {(), reasons_of(scene, views)}
                if honest(views, other) and plan_is_safe(scene, views, other):
                    # No paper can be right, as a class falls into safe ones.
                    classes = published_above(views, other)
                    rights = [[reason for reason in triples(scene) if is_reason(scene, views, level, members, reason)]
                              for level, members in classes]
                    self.assertIn([], rights)
                    papers.add(tuple((right or [(members[0], 0, 0)])[0] for (_, members), right in zip(classes, rights)))
                for paper in papers:
                    self.assertIs(judge_plan(scene, views, other, paper), False)
            if careless(scene, views) != plan:
                self.assertIs(judge_plan(scene, views, careless(scene, views), reasons_of(scene, views)), False)


if __name__ == "__main__":
    unittest.main()
