import itertools
import random
import unittest

from asking import Asking, refusal_of
from cases import drawing_with, is_kept, random_gaps, sets_of
from gaugewright.errors import TooGreat
from gaugewright.measure import fewest
from gaugewright.plans import depth, led, plan_holds, plan_of
from gaugewright.reach import verdict
from samples import GREATEST, deep_list, deep_tuple, no_whole_numbers, whatever

KEEPS = ("keeps",)
BREAKS = ("breaks",)
DRAWING = (("a", -1, 1), ("b", 4, 5), ("c", 7, 7))
GAP = (((0, 1), (1, 1)), 5, 9)  # kept by a at 1, and by a at 0 with b at 5
PLAN = ("measure", 0, (BREAKS, ("measure", 1, (BREAKS, KEEPS)), KEEPS))
OTHER_PLAN = ("measure", 1, (("measure", 0, (BREAKS, BREAKS, KEEPS)), ("measure", 0, (BREAKS, KEEPS, KEEPS))))
EIGHT = drawing_with([(0, 1)] * 8)


def all_plans(drawing, parts, deep):
    """All plans that measure these parts alone, each once at most on a way, so deep at most."""
    plans = [KEEPS, BREAKS]
    if deep > 0:
        for part in parts:
            further = all_plans(drawing, [other for other in parts if other != part], deep - 1)
            size = drawing[part][2] - drawing[part][1] + 1
            plans.extend(("measure", part, each) for each in itertools.product(further, repeat=size))
    return plans


def word_of(plan, drawing, one):
    while len(plan) == 3:
        plan = plan[2][one[plan[1]] - drawing[plan[1]][1]]
    return plan[0]


def is_right(drawing, gap, plan):
    return all(word_of(plan, drawing, one) == ("keeps" if is_kept(gap, one) else "breaks") for one in sets_of(drawing))


def least_depth(drawing, gap):
    return least_depth_of(drawing, gap, tuple([None] * len(drawing)), {})


def least_depth_of(drawing, gap, measured, known):
    """By what each part was measured to be, going through the sets that are left."""
    if measured not in known:
        left = [one for one in sets_of(drawing) if all(number in (None, its) for number, its in zip(measured, one))]
        if len({is_kept(gap, one) for one in left}) == 1:
            known[measured] = 0
        else:
            known[measured] = 1 + min(
                max(least_depth_of(drawing, gap, measured[:part] + (number,) + measured[part + 1:], known)
                    for number in range(low, high + 1))
                for part, (name, low, high) in enumerate(drawing) if measured[part] is None)
    return known[measured]


def random_plan(source, drawing, gap, sets, parts):
    """Mostly a plan that holds, of no special depth; now and then a part again, or a wrong word."""
    kept = {is_kept(gap, one) for one in sets}
    if len(kept) == 1 and source.random() < 0.8 or not parts or source.random() < 0.03:
        word = KEEPS if True in kept else BREAKS
        return word if source.random() < 0.95 else source.choice((KEEPS, BREAKS))
    part = source.choice(parts)
    name, low, high = drawing[part]
    others = [other for other in parts if other != part or source.random() < 0.05]
    plans = [random_plan(source, drawing, gap, [one for one in sets if one[part] == number], others)
             for number in range(low, high + 1)]
    return ("measure", part, tuple(plans))


def measured_twice(plan, measured=()):
    if plan[0] != "measure":
        return False
    return plan[1] in measured or any(measured_twice(further, measured + (plan[1],)) for further in plan[2])


class DepthAndLed(Asking):
    def test_by_hand(self):
        self.assertEqual([depth(plan) for plan in (KEEPS, BREAKS, PLAN, OTHER_PLAN)], [0, 0, 2, 2])
        self.assertEqual(depth(("measure", 2, (KEEPS,))), 1)
        self.assertEqual(depth(("measure", 2, (PLAN,))), 3)
        self.assertEqual(depth(("measure", 0, (KEEPS, KEEPS, ("measure", 1, (KEEPS, KEEPS))))), 2)
        self.assertEqual(depth(("measure", 0, (("measure", 1, (KEEPS, KEEPS)), KEEPS, KEEPS))), 2)

    def test_led(self):
        self.assertEqual(led(PLAN, DRAWING, (-1, 4, 7)), ([0], "breaks"))
        self.assertEqual(led(PLAN, DRAWING, (0, 4, 7)), ([0, 1], "breaks"))
        self.assertEqual(led(PLAN, DRAWING, (0, 5, 7)), ([0, 1], "keeps"))
        self.assertEqual(led(PLAN, DRAWING, (1, 4, 7)), ([0], "keeps"))
        self.assertEqual(led(OTHER_PLAN, DRAWING, (0, 5, 7)), ([1, 0], "keeps"))
        self.assertEqual(led(KEEPS, DRAWING, (0, 4, 7)), ([], "keeps"))
        self.assertEqual(led(BREAKS, DRAWING, (0, 4, 7)), ([], "breaks"))
        self.assertEqual(led(("measure", 2, (OTHER_PLAN,)), DRAWING, (1, 4, 7)), ([2, 1, 0], "keeps"))

    def test_led_also_by_plans_that_do_not_hold(self):
        self.assertEqual(led(("measure", 1, (KEEPS, BREAKS)), DRAWING, (1, 5, 7)), ([1], "breaks"))

    def test_far_more_sets_are_not_refused(self):
        drawing = drawing_with([(-500, 500)] * 8)
        plan = KEEPS
        for part in range(8):
            plan = ("measure", part, (BREAKS,) * 500 + (plan,) * 501)
        self.assertEqual(self.at_once(depth, plan), 8)
        one = (500, 0, 1, 2, 3, 4, 5, 6)
        self.assertEqual(self.at_once(led, plan, drawing, one), (list(range(7, -1, -1)), "keeps"))
        self.assertEqual(self.at_once(led, plan, drawing, (0, 0, 0, -1, 0, 0, 0, 0)), ([7, 6, 5, 4, 3], "breaks"))
        self.assertEqual(led(BREAKS, drawing_with([(-GREATEST, GREATEST)] * 8), (0,) * 8), ([], "breaks"))
        alone = ("measure", 0, tuple((KEEPS, BREAKS)[number % 2] for number in range(100000)))
        self.assertEqual(self.at_once(depth, alone), 1)
        self.assertEqual(led(alone, (("a", 7, 100006),), (100006,)), ([0], "breaks"))

    def test_the_parts_told_are_the_askers_own(self):
        for plan in (PLAN, KEEPS):
            told = led(plan, DRAWING, (0, 5, 7))
            self.assertIs(type(told), tuple)
            kept = list(told[0])
            told[0].append(5)
            self.assertEqual(led(plan, DRAWING, (0, 5, 7)), (kept, "keeps"))


class PlanHolds(Asking):
    def assert_no_plan(self, thing, gap=GAP):
        self.assertIs(plan_holds(DRAWING, gap, thing), False, thing)

    def test_by_hand(self):
        for plan in [PLAN, OTHER_PLAN, ("measure", 2, (PLAN,)), ("measure", 2, (OTHER_PLAN,))]:
            self.assertIs(plan_holds(DRAWING, GAP, plan), True)
        always, never = (((2, 1),), 7, 8), (((2, 1),), 8, 9)
        self.assertIs(plan_holds(DRAWING, always, KEEPS), True)
        self.assertIs(plan_holds(DRAWING, always, BREAKS), False)
        self.assertIs(plan_holds(DRAWING, never, BREAKS), True)
        self.assertIs(plan_holds(DRAWING, never, KEEPS), False)
        self.assertIs(plan_holds(DRAWING, always, ("measure", 0, (KEEPS, KEEPS, KEEPS))), True)
        self.assertIs(plan_holds(DRAWING, always, ("measure", 0, (KEEPS, BREAKS, KEEPS))), False)

    def test_a_part_measured_twice(self):
        again = ("measure", 0, (BREAKS, ("measure", 1, (BREAKS, KEEPS)), ("measure", 0, (BREAKS, BREAKS, KEEPS))))
        self.assert_no_plan(again)
        self.assert_no_plan(("measure", 2, (("measure", 2, (PLAN,)),)))
        self.assert_no_plan(("measure", 2, (("measure", 1, (("measure", 2, (BREAKS,)), KEEPS)),)))
        # On two ways beside one another a part may be measured on each.
        self.assertIs(plan_holds(DRAWING, GAP, OTHER_PLAN), True)

    def test_one_thing_otherwise(self):
        inner = ("measure", 1, (BREAKS, KEEPS))
        for plan in [
            KEEPS, BREAKS, ("measure", 0, (KEEPS, inner, KEEPS)), ("measure", 0, (BREAKS, KEEPS, KEEPS)),
            ("measure", 0, (BREAKS, inner, BREAKS)), ("measure", 0, (BREAKS, ("measure", 1, (KEEPS, BREAKS)), KEEPS)),
            ("measure", 0, (BREAKS, inner)), ("measure", 0, (BREAKS, inner, KEEPS, KEEPS)), ("measure", 0),
            ("measure", 0, [BREAKS, inner, KEEPS]), ["measure", 0, (BREAKS, inner, KEEPS)], ("Measure",) + PLAN[1:],
            ("measure", 3, (BREAKS, inner, KEEPS)), ("measure", -3, (BREAKS, inner, KEEPS)), PLAN + (0,), (PLAN,),
            ("measure", -1, (PLAN,)), ("measure", -2, OTHER_PLAN[2]),
            ("measure", "0", (BREAKS, inner, KEEPS)), ("measure", None, (BREAKS, inner, KEEPS)),
            ("measure", (0,), (BREAKS, inner, KEEPS)), ("measure", 0, (["breaks"], inner, KEEPS)),
            ("measure", 0, ("breaks", inner, KEEPS)), ("measure", 0, (BREAKS, inner, ("Keeps",))),
            ("measure", 0, (BREAKS, inner, ("keeps", 0))), ("measure", 0, (BREAKS, inner, ())),
            ("measure", 0, (BREAKS, inner, None)), ("measure", 0, (BREAKS, inner, ("sometimes",))),
            ("measure", 0, (BREAKS, ("measure", 2, (BREAKS, KEEPS)), KEEPS)), ("measure", 0, "abc"),
            ("measure", 0, (BREAKS, ("measure", 1, (BREAKS, KEEPS, KEEPS)), KEEPS)), ("measure", 10 ** 80, (KEEPS,)),
            {0: "measure", 1: 0, 2: (BREAKS, inner, KEEPS)}, ("measure", 0, {0: BREAKS, 1: inner, 2: KEEPS}), "keeps",
        ]:
            self.assert_no_plan(plan)

    def test_a_word_is_looked_at_though_no_number_is_wrong(self):
        never = (((0, 1),), 5, 5)
        self.assertIs(plan_holds(DRAWING, never, ("measure", 1, (BREAKS, BREAKS))), True)
        for word in [("sometimes",), ("never",), (), "breaks", None, ("breaks", "breaks"), ["breaks"], (BREAKS,),
                     ("Measure", 2, (BREAKS,)), ("breaks", 2, (BREAKS,)), (2, "measure", (BREAKS,))]:
            self.assert_no_plan(("measure", 1, (BREAKS, word)), never)
            self.assert_no_plan(word, never)

    def test_truths_are_no_numbers(self):
        self.assert_no_plan(("measure", False, PLAN[2]))
        self.assert_no_plan(("measure", 0, (BREAKS, ("measure", True, (BREAKS, KEEPS)), KEEPS)))

    def test_whatever(self):
        for thing in whatever():
            self.assert_no_plan(thing)
            self.assert_no_plan((thing,))
            self.assert_no_plan(("measure", 0, thing))
            self.assert_no_plan(("measure", 0, (BREAKS, PLAN[2][1], thing)))
            self.assert_no_plan(("measure", 0, (BREAKS, ("measure", 1, (BREAKS, thing)), KEEPS)))
            self.assert_no_plan((thing,) + PLAN[1:])
        for thing in no_whole_numbers() + [deep_tuple(1, 197), deep_list(1, 197)]:
            self.assert_no_plan(("measure", thing, PLAN[2]))

    def test_deep_ones(self):
        plan = PLAN
        for step in range(97):
            plan = ("measure", 2, (plan,))
        self.assert_no_plan(plan)

    def test_all_plans_of_few_parts(self):
        for spans, terms in [([(0, 1), (3, 4)], ((0, 1), (1, 2))), ([(0, 2), (0, 1)], ((0, 2), (1, 1))),
                             ([(0, 0), (0, 2)], ((0, 1), (1, -1))), ([(-1, 0), (0, 1)], ((1, 3),))]:
            drawing = drawing_with(spans)
            plans = all_plans(drawing, range(len(drawing)), 2)
            worths = sorted({sum(times * one[part] for part, times in terms) for one in sets_of(drawing)})
            for low, high in [(worths[0], worths[0]), (worths[1], worths[-1]), (worths[1], worths[1]),
                              (worths[0], worths[-1]), (50, 60)]:
                gap = (terms, low, high)
                right = [plan for plan in plans if plan_holds(drawing, gap, plan)]
                self.assertEqual(right, [plan for plan in plans if is_right(drawing, gap, plan)])
                self.assertEqual(depth(plan_of(drawing, gap)), min(depth(plan) for plan in right))

    def test_against_the_words_once_more(self):
        source = random.Random(101)
        seen = {True: 0, False: 0}
        for drawing, gap in random_gaps(102, 500):
            sets = sets_of(drawing)
            if len(sets) <= 60:
                plan = random_plan(source, drawing, gap, sets, list(range(len(drawing))))
                told = plan_holds(drawing, gap, plan)
                self.assertIs(told, is_right(drawing, gap, plan) and not measured_twice(plan), (drawing, gap, plan))
                seen[told] += 1
        self.assertGreater(min(seen.values()), 40, seen)

    def test_what_was_handed_in_stays(self):
        self.assert_unchanged(plan_holds, DRAWING, GAP, PLAN)
        self.assert_unchanged(plan_holds, DRAWING, GAP, ("measure", 0, ([["breaks"]], {"a": [1]}, KEEPS)))


class PlanOf(Asking):
    def test_by_hand(self):
        told = plan_of(DRAWING, GAP)
        self.assertIs(plan_holds(DRAWING, GAP, told), True)
        self.assertEqual(depth(told), 2)
        self.assertEqual(plan_of(DRAWING, (((2, 1),), 7, 8)), KEEPS)
        self.assertEqual(plan_of(DRAWING, (((2, 1),), 8, 8)), BREAKS)

    def test_amid_a_reach_without_a_worth(self):
        self.assertEqual(plan_of(drawing_with([(0, 5), (0, 4)]), (((0, 2), (1, 2)), 7, 7)), BREAKS)

    def test_no_deeper_than_the_fewest_parts(self):
        for drawing, gap in random_gaps(103, 300):
            deep = depth(plan_of(drawing, gap))
            self.assertLessEqual(deep, len(fewest(drawing, gap)))
            self.assertIs(deep == 0, verdict(drawing, gap) != "sometimes")

    def test_no_plan_that_holds_is_less_deep(self):
        seen = set()
        for drawing, gap in random_gaps(104, 200):
            told = self.at_once(plan_of, drawing, gap)
            self.assertIs(plan_holds(drawing, gap, told), True)
            self.assertIs(is_right(drawing, gap, told), True)
            if len(sets_of(drawing)) <= 60:
                self.assertEqual(depth(told), least_depth(drawing, gap), (drawing, gap))
                seen.add(depth(told))
        self.assertTrue({0, 1, 2, 3} <= seen, seen)

    def test_eight_parts(self):
        for gap in [(tuple((part, 1) for part in range(8)), 4, 8), (((2, 3), (5, 3), (7, 1)), 0, 3),
                    (((0, 1), (1, 2), (2, 3), (3, -1), (4, -2), (5, -3), (6, 1), (7, 2)), 3, 5)]:
            told = self.at_once(plan_of, EIGHT, gap)
            self.assertIs(self.at_once(plan_holds, EIGHT, gap, told), True)
            for one in sets_of(EIGHT):
                parts, word = led(told, EIGHT, one)
                self.assertEqual(word, "keeps" if is_kept(gap, one) else "breaks")
                self.assertLessEqual(len(parts), depth(told))
        self.assertEqual(depth(plan_of(EIGHT, (((2, 3), (5, 3), (7, 1)), 0, 3))), 3)
        self.assertEqual(depth(plan_of(EIGHT, (((2, 3), (5, 3), (7, 1)), 0, 4))), 2)

    def test_long_numbers(self):
        drawing = drawing_with([(GREATEST - 2, GREATEST), (-GREATEST, 3 - GREATEST)])
        gap = (((0, 1), (1, 1)), 0, 1)
        told = plan_of(drawing, gap)
        self.assertIs(plan_holds(drawing, gap, told), True)
        self.assertEqual(depth(told), 2)

    def test_the_same_question_has_the_same_answer(self):
        wide = drawing_with([(0, 400)])
        self.assert_same_again([
            lambda: plan_of(DRAWING, GAP), lambda: plan_holds(DRAWING, GAP, PLAN), lambda: depth(PLAN),
            lambda: led(PLAN, DRAWING, (0, 5, 7)), lambda: plan_of(EIGHT, (((2, 3), (5, 3), (7, 1)), 0, 3)),
            lambda: vars(refusal_of(self, plan_of, wide, (((0, 1),), 0, 0)))])


class TooMany(Asking):
    def test_three_hundred_and_one_more(self):
        gap = (((0, 1),), 1, 1)
        for drawing in [drawing_with([(1, 300)]), drawing_with([(0, 2), (0, 3), (0, 4), (0, 4)])]:
            told = self.at_once(plan_of, drawing, gap)
            self.assertIs(self.at_once(plan_holds, drawing, gap, told), True)
        for drawing in [drawing_with([(0, 300)]), drawing_with([(0, 6), (0, 42)])]:
            self.assert_refused(TooGreat, {"many": 301, "most": 300}, plan_of, drawing, gap)
            for thing in [KEEPS, BREAKS, None, ("measure", 0, (BREAKS, KEEPS) + (BREAKS,) * 299)]:
                self.assert_refused(TooGreat, {"many": 301, "most": 300}, plan_holds, drawing, gap, thing)

    def test_far_more(self):
        eight = drawing_with([(-GREATEST, GREATEST)] * 8)
        for gap in [(((0, 1),), 1, 1), (((0, 1),), -GREATEST, GREATEST)]:
            fields = {"many": (2 * GREATEST + 1) ** 8, "most": 300}
            self.assert_refused(TooGreat, fields, self.at_once, plan_of, eight, gap)
            for thing in whatever():
                self.assert_refused(TooGreat, fields, self.at_once, plan_holds, eight, gap, thing)


if __name__ == "__main__":
    unittest.main()
