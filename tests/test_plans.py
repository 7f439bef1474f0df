"""Scenes, safe sets, the finest plan and the careless one, and what plans tell [33], [34], [36]."""

import itertools
import random
import unittest

from hushedpages.plans import careless, finest, is_safe, keeps_promise, told_at
from scenes import all_plans, class_at, honest, plan_is_safe, random_scene, random_views, safe

# One secret, of which each shape has one stem, and at least two ways must be left.
THREE = (((0,), (1,), (2,)), ((1, 1, 1),), (((0, 0, 0), (((0, 2),),)),))
VIEWS = (("x", 0), ("x", 0), ("y", 0))


class SafeTest(unittest.TestCase):
    def test_the_empty_set_and_the_set_of_all_fillings(self):
        dice = random.Random(33)
        for _ in range(100):
            scene = random_scene(dice)
            self.assertIs(is_safe(scene, ()), True)
            self.assertIs(is_safe(scene, tuple(range(len(scene[0])))), True)

    def test_one_group_and_one_guard(self):
        for members, told in (((0,), False), ((2,), False), ((0, 1), True), ((0, 2), True), ((0, 1, 2), True)):
            self.assertIs(is_safe(THREE, members), told)

    def test_each_shape_counts_once(self):
        fillings = ((0, 0), (0, 1), (1, 0), (1, 1))
        scene = (fillings, ((2, 1), (1, 5)), (((0, 0, 0, 0), (((0, 3), (1, 2)),)),))
        told = {members: is_safe(scene, members) for many in range(5) for members in itertools.combinations(range(4), many)}
        self.assertEqual([members for members in told if told[members]],
                         [(), (0, 3), (1, 2), (1, 3), (0, 1, 2), (0, 1, 3), (0, 2, 3), (1, 2, 3), (0, 1, 2, 3)])

    def test_several_groups_and_watches(self):
        groups = ((0, 0, 1, 1), (((0, 2),), ((0, 1),)))
        scene = (((0,), (1,), (2,), (3,)), ((1, 1, 1, 1),), (groups,))
        for members, told in (((0,), False), ((0, 1), True), ((2,), True), ((0, 2), False), ((0, 1, 3), True), ((2, 3), True)):
            self.assertIs(is_safe(scene, members), told)
        scene = scene[:2] + ((groups, ((0, 1, 1, 0), ((), ((0, 2),)))),)
        for members, told in (((0, 1), False), ((2,), False), ((3,), True), ((1, 2), False), ((0, 1, 2), True), ((0, 1, 2, 3), True)):
            self.assertIs(is_safe(scene, members), told)

    def test_shapes_of_which_news_has_left_none(self):
        scene = (((0,), (2,)), ((1, 0, 1),), (((0, 0), (((0, 2),),)),))
        self.assertIs(is_safe(scene, (0, 1)), True)
        self.assertIs(is_safe(scene, (1,)), False)

    def test_random_sets(self):
        dice = random.Random(34)
        for _ in range(150):
            scene = random_scene(dice)
            for many in range(len(scene[0]) + 1):
                for members in itertools.combinations(range(len(scene[0])), many):
                    self.assertIs(is_safe(scene, members), safe(scene, members))


class FinestTest(unittest.TestCase):
    def test_the_scene_of_the_document(self):
        self.assertEqual(finest(THREE, VIEWS), (1, 1, 1))
        self.assertEqual(careless(THREE, VIEWS), (0, 0, 1))
        self.assertEqual(told_at(VIEWS, (0, 0, 1), 2), (2,))
        self.assertEqual(told_at(VIEWS, (0, 0, 1), 0), (0, 1))
        self.assertIs(keeps_promise(THREE, VIEWS, (0, 0, 1)), False)
        self.assertIs(keeps_promise(THREE, VIEWS, (1, 1, 1)), True)

    def test_classes_that_fall_apart_at_several_levels(self):
        scene = (tuple((k,) for k in range(6)), ((1,) * 6,), (((0,) * 6, (((0, 2),),)),))
        views = ((0, 0, "a", None), (0, 0, "a", None), (1, 1, "a", None), (2, 1, "a", None), (3, 2, "b", None), (3, 2, "b", None))
        self.assertEqual(finest(scene, views), (0, 0, 1, 1, 0, 0))
        self.assertEqual(careless(scene, views), (0, 0, 1, 1, 0, 0))
        # A filling alone at a level holds all back that fall apart with it there.
        views = views[:4] + ((3, 2, "a", None), (3, 2, "b", None))
        self.assertEqual(finest(scene, views), (3,) * 6)
        self.assertEqual(careless(scene, views), (0, 0, 1, 1, 0, 0))

    def test_levels_that_do_not_differ(self):
        for many in (1, 2, 5):
            views = ((("same",),) * many,) * 3
            self.assertEqual(finest(THREE, views), (0, 0, 0))
        self.assertEqual(finest((((0,),), ((1,),), (((0,), (((0, 1),),)),)), ((7,),)), (0,))

    def test_scenes_without_guards(self):
        scene = THREE[:2] + (((0, 0, 1), ((), ())),)
        self.assertEqual(finest((scene[0], scene[1], (((0, 0, 1), ((), ())),)), VIEWS), (0, 0, 0))
        self.assertEqual(finest((scene[0], scene[1], ()), VIEWS), (0, 0, 0))

    def test_the_finest_plan_against_all_plans(self):
        dice = random.Random(35)
        above = 0
        for _ in range(300):
            scene = random_scene(dice, 5)
            views = random_views(dice, len(scene[0]))
            plan = finest(scene, views)
            good = [other for other in all_plans(views) if honest(views, other) and plan_is_safe(scene, views, other)]
            self.assertIn(plan, good)
            for other in good:
                self.assertTrue(all(level <= later for level, later in zip(plan, other)))
            above += any(plan)
        self.assertGreater(above, 30)

    def test_plans_that_are_honest_safe_both_or_neither(self):
        dice = random.Random(36)
        kinds = {}
        for _ in range(60):
            scene = random_scene(dice, 4)
            views = random_views(dice, len(scene[0]))
            for plan in all_plans(views):
                told = [told_at(views, plan, k) for k in range(len(plan))]
                self.assertEqual(told, [tuple(other for other in class_at(views, level, k) if plan[other] == level)
                                        for k, level in enumerate(plan)])
                keeps = keeps_promise(scene, views, plan)
                self.assertIs(keeps, all(safe(scene, members) for members in told))
                kind = honest(views, plan), plan_is_safe(scene, views, plan)
                kinds[kind] = kinds.get(kind, 0) + 1
                if kind[0]:
                    self.assertIs(keeps, kind[1])
        self.assertEqual(len(kinds), 4)

    def test_the_careless_plan(self):
        dice = random.Random(37)
        broken = 0
        for _ in range(200):
            scene = random_scene(dice)
            views = random_views(dice, len(scene[0]))
            plan, least = finest(scene, views), careless(scene, views)
            self.assertEqual(least, tuple(min(level for level in range(len(views[0])) if safe(scene, class_at(views, level, k)))
                                          for k in range(len(views))))
            self.assertTrue(all(level <= later for level, later in zip(least, plan)))
            self.assertIs(honest(views, least), least == plan)
            broken += not keeps_promise(scene, views, least)
        self.assertGreater(broken, 5)

    def test_values_are_compared_as_they_are(self):
        views = (((("a", "b"),), ()), ((("a", "b"),), ()), ((("a", "c"),), ()))
        self.assertEqual(finest(THREE, views), (1, 1, 1))
        self.assertEqual(careless(THREE, views), (0, 0, 1))
        self.assertEqual(finest(THREE, (("", None), ((), None), (0, None))), (1, 1, 1))

    def test_arguments_stay(self):
        copy = eval(repr((THREE, VIEWS)))
        finest(THREE, VIEWS)
        careless(THREE, VIEWS)
        self.assertEqual((THREE, VIEWS), copy)


if __name__ == "__main__":
    unittest.main()
