import random
import unittest

from asking import Asking, refusal_of
from cases import (
    POOLS, always_kept, drawing_with, is_kept, long_gaps, random_gap, random_jobs, sets_of, turned, with_wanted,
)
from gaugewright.counter import counter, fitting
from gaugewright.drawings import how_many, is_set, narrowed
from gaugewright.errors import TooGreat
from gaugewright.gaps import is_gap
from samples import GREATEST

WIDE = (-GREATEST, GREATEST)
JOB = ((("a", 0, 3), ("b", 0, 3)), ((((0, 1), (1, -1)), -2, 2), (((0, 1), (1, 1)), 1, 6)))


def breaker_by_all_sets(job):
    for one in sets_of(job[0]):
        for number, gap in enumerate(job[1]):
            if not is_kept(gap, one):
                return (one, number)
    return None


def keeper_by_all_sets(job):
    for one in sets_of(job[0]):
        if all(is_kept(gap, one) for gap in job[1]):
            return one
    return None


def long_jobs(seed, many):
    source = random.Random(seed)
    for drawing, gap in long_gaps(seed, many):
        gaps = [gap] + [random_gap(source, drawing, source.choice(POOLS)) for step in range(source.randint(0, 5))]
        gaps = [with_wanted(one, max(one[1], -GREATEST), min(one[2], GREATEST)) for one in gaps]
        job = (drawing, tuple(one for one in gaps if is_gap(drawing, one)) or (gap,))
        yield job


class Counter(Asking):
    def test_by_hand(self):
        self.assertEqual(counter(JOB), ((0, 0), 1))
        self.assertEqual(counter((JOB[0], JOB[1][:1])), ((0, 3), 0))
        self.assertEqual(counter((JOB[0], ((((0, 1), (1, 1)), 0, 6),))), None)
        self.assertEqual(counter((JOB[0], ((((0, 1), (1, 1)), 0, 5),))), ((3, 3), 0))
        self.assertEqual(counter((JOB[0], ((((0, -1),), -3, -1),))), ((0, 0), 0))
        self.assertEqual(counter((JOB[0], ((((1, 1),), 0, 1), (((0, 1),), 0, 0)))), ((0, 2), 0))
        self.assertIs(type(counter(JOB)), tuple)

    def test_the_first_gap_that_the_set_breaks(self):
        drawing = (("a", 0, 3),)
        easy, hard, harder = (((0, 1),), 0, 3), (((0, 1),), 0, 1), (((0, 2),), 0, 2)
        self.assertEqual(counter((drawing, (easy, hard, harder))), ((2,), 1))
        self.assertEqual(counter((drawing, (easy, harder, hard))), ((2,), 1))
        self.assertEqual(counter((drawing, (easy, easy, easy, easy, easy, hard))), ((2,), 5))
        self.assertEqual(counter((drawing, (hard, (((0, 1),), 0, 0)))), ((1,), 1))

    def test_against_all_sets(self):
        for job in random_jobs(11, 500):
            self.assertEqual(counter(job), breaker_by_all_sets(job), job)

    def test_none_just_where_each_gap_always_holds(self):
        for job in random_jobs(12, 300):
            self.assertIs(counter(job) is None, all(always_kept(job[0], gap) for gap in job[1]))

    def test_long_spans(self):
        for job in long_jobs(13, 200):
            told = self.at_once(counter, job)
            self.assertIs(told is None, all(always_kept(job[0], gap) for gap in job[1]))
            if told is not None:
                self.check_first(job, told)

    def check_first(self, job, told):
        one, number = told
        self.assertIs(is_set(job[0], one), True)
        self.assertEqual([is_kept(gap, one) for gap in job[1]].index(False), number)
        earlier = job[0]
        for part, (name, low, high) in enumerate(job[0]):
            if one[part] > low:
                lesser = narrowed(earlier, part, (low, one[part] - 1))
                self.assertTrue(all(always_kept(lesser, gap) for gap in job[1]), (job, told))
            earlier = narrowed(earlier, part, (one[part], one[part]))

    def test_long_spans_by_hand(self):
        drawing = drawing_with([WIDE] * 8)
        total = (tuple((part, 1) for part in range(8)), -GREATEST, GREATEST)
        self.assertEqual(counter((drawing, (total,))), ((-GREATEST,) * 8, 0))
        drawing = drawing_with([(0, GREATEST), (0, GREATEST)])
        gap = (((0, 1), (1, 1)), 0, GREATEST)
        self.assertEqual(counter((drawing, (gap,))), ((1, GREATEST), 0))
        gap = (((0, -3), (1, 2)), -GREATEST, GREATEST)
        self.assertEqual(counter((drawing, (gap,))), ((0, GREATEST // 2 + 1), 0))
        self.assertEqual(counter((drawing, ((((1, 1),), 0, GREATEST),))), None)

    def test_opposites_break_with_the_same_sets(self):
        for job in random_jobs(14, 100):
            self.assertEqual(counter((job[0], tuple(turned(gap) for gap in job[1]))), counter(job))


class Fitting(Asking):
    def test_by_hand(self):
        self.assertEqual(fitting(JOB), (0, 1))
        self.assertEqual(fitting((JOB[0], ((((0, 1),), 2, 9), (((1, 1),), 3, 9)))), (2, 3))
        self.assertIsNone(fitting((JOB[0], ((((0, 2),), 3, 3),))))
        self.assertIsNone(fitting((JOB[0], ((((0, 1),), 0, 1), (((0, 1),), 2, 3)))))

    def test_against_all_sets(self):
        for job in random_jobs(15, 300):
            self.assertEqual(fitting(job), keeper_by_all_sets(job))

    def test_one_gap_more_is_kept_by_no_other_set(self):
        for job in random_jobs(16, 150):
            for many in range(1, len(job[1])):
                fewer = fitting((job[0], job[1][:many]))
                more = fitting((job[0], job[1][:many + 1]))
                if more is not None:
                    self.assertTrue(all(is_kept(gap, more) for gap in job[1][:many]))
                    self.assertLessEqual(fewer, more)

    def test_three_hundred_and_more(self):
        gaps = ((((0, 1),), 299, 299),)
        self.assertEqual(fitting(((("a", 0, 299),), gaps)), (299,))
        self.assertEqual(fitting((drawing_with([(0, 299), (7, 7)]), gaps)), (299, 7))
        self.assertIsNone(fitting(((("a", 0, 298),), gaps)))
        self.assert_refused(TooGreat, {"many": 301, "most": 300}, fitting, ((("a", 0, 300),), gaps))
        self.assert_refused(TooGreat, {"many": 304, "most": 300}, fitting, (drawing_with([(1, 16), (1, 19)]), gaps))

    def test_far_more_sets(self):
        drawing = drawing_with([WIDE] * 8)
        for gap in [(((0, 1),), -GREATEST, GREATEST), (((0, 1),), 0, 0), (((0, 2),), 1, 1)]:
            self.assert_refused(TooGreat, {"many": how_many(drawing), "most": 300}, fitting, (drawing, (gap,)))

    def test_the_same_question_has_the_same_answer(self):
        long_job = (drawing_with([WIDE] * 3), ((((0, 1), (2, -2)), -GREATEST, 5),))
        self.assert_same_again([
            lambda: counter(JOB), lambda: fitting(JOB), lambda: counter(long_job),
            lambda: vars(refusal_of(self, fitting, long_job)), lambda: fitting((JOB[0], JOB[1][1:]))])


if __name__ == "__main__":
    unittest.main()
