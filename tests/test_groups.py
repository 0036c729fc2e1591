import random
import unittest

from asking import Asking, refusal_of
from cases import TIMES
from gaugewright.boxes import matched
from gaugewright.errors import Unlike
from gaugewright.groups import grouping_holds, grouping_of
from samples import GREATEST, LONG_END, deep_list, deep_tuple, no_whole_numbers, whatever

LESS = (((0, 1), (1, -1)), 0, 1)  # the one's piece is as great as the other's or greater by one
SUM = (((0, 1), (1, 1)), 9, 11)
ANY = (((0, 1), (1, 1)), -GREATEST, GREATEST)
ONE = (5, 3, 9)
OTHER = (8, 5, 2)  # in rows 3, 5, 9 and 2, 5, 8


def all_groupings(many):
    if many == 0:
        return [[]]
    return [[first] + further for first in range(1, many + 1) for further in all_groupings(many - first)]


def rows_by_hand(gap, one, other):
    ((first, s), (second, t)) = gap[0]
    mine = sorted((number, piece) for piece, number in enumerate(one))
    turn = 1 if (s < 0) != (t < 0) else -1
    its = sorted((turn * number, piece) for piece, number in enumerate(other))
    return [piece for number, piece in mine], [piece for number, piece in its]


def holds_by_hand(gap, one, other, grouping):
    ((first, s), (second, t)), low, high = gap
    mine, its = rows_by_hand(gap, one, other)
    for size in grouping:
        for i in mine[:size]:
            for j in its[:size]:
                if not low <= s * one[i] + t * other[j] <= high:
                    return False
        mine, its = mine[size:], its[size:]
    return True


def like_boxes(seed, many, pieces):
    source = random.Random(seed)
    for step in range(many):
        size = source.randint(0, pieces)
        gap = ((0, source.choice(TIMES)), (1, source.choice(TIMES)))
        one = tuple(source.randint(-4, 4) for piece in range(size))
        # So that many of them are matched, the other's pieces are made to go with the one's.
        other = [-gap[0][1] * number // gap[1][1] + source.randint(-1, 1) for number in one]
        source.shuffle(other)
        low = source.randint(-8, 1)
        yield (gap, low, low + source.randint(3, 14)), one, tuple(other)


class GroupingHolds(Asking):
    def test_by_hand(self):
        self.assertIs(grouping_holds(LESS, ONE, OTHER, [1, 1, 1]), True)
        for grouping in [[3], [1, 2], [2, 1]]:
            self.assertIs(grouping_holds(LESS, ONE, OTHER, grouping), False)
        self.assertIs(grouping_holds(LESS, (5, 4, 9), (4, 4, 9), [2, 1]), True)
        self.assertIs(grouping_holds(LESS, (5, 4, 9), (4, 4, 9), [1, 2]), False)
        self.assertIs(grouping_holds(LESS, (9, 5, 9), (9, 8, 4), [1, 2]), True)
        self.assertIs(grouping_holds(LESS, (9, 5, 9), (9, 8, 4), [2, 1]), False)

    def test_like_signs_turn_the_other_row_round(self):
        # In rows 1, 4, 8 and 9, 6, 2; with the opposites of times and ends the same pieces fit.
        for gap in [SUM, (((0, -1), (1, -1)), -11, -9)]:
            self.assertIs(grouping_holds(gap, (8, 1, 4), (2, 9, 6), [1, 1, 1]), True)
            self.assertIs(grouping_holds(gap, (1, 1, 8), (2, 9, 9), [2, 1]), True)
            self.assertIs(grouping_holds(gap, (1, 1, 8), (2, 9, 9), [1, 2]), False)

    def test_unlike_signs_leave_both_rows_rising(self):
        for gap in [LESS, (((0, -1), (1, 1)), -1, 0)]:
            self.assertIs(grouping_holds(gap, (5, 1, 3), (4, 2, 1), [1, 1, 1]), True)
            self.assertIs(grouping_holds(gap, (5, 1, 1), (4, 1, 1), [2, 1]), True)
            self.assertIs(grouping_holds(gap, (5, 1, 1), (4, 1, 1), [1, 2]), False)

    def test_lists_that_are_no_groupings(self):
        four = (1, 1, 1, 1)
        for thing in [[4], [1, 3], [3, 1], [2, 2], [1, 1, 2], [1, 1, 1, 1]]:
            self.assertIs(grouping_holds(ANY, four, four, thing), True)
        for thing in [
            [], [3], [5], [1, 1], [1, 1, 1, 1, 1], [0, 4], [4, 0], [5, -1], [-1, 5], [2, 0, 2], (4,), (1, 3), 4, "4",
            [4, None], ["4"], [[4]], [(4,)], [True, 3], [3, True], [True, True, True, True], [4, False], [2, "2"],
            {4: 4}, {0: 4}, [LONG_END], [LONG_END, 4 - LONG_END], None, True, [[1, 3]], [1, [3]], [-4],
        ]:
            self.assertIs(grouping_holds(ANY, four, four, thing), False, thing)

    def test_boxes_without_pieces(self):
        self.assertIs(grouping_holds(LESS, (), (), []), True)
        for thing in [[0], [1], (), None, False, "", {}, [[]], 0]:
            self.assertIs(grouping_holds(LESS, (), (), thing), False)

    def test_a_truth_is_no_size(self):
        self.assertIs(grouping_holds(ANY, (5,), (5,), [1]), True)
        self.assertIs(grouping_holds(ANY, (5,), (5,), [True]), False)

    def test_whatever(self):
        for thing in whatever():
            self.assertIs(grouping_holds(LESS, ONE, OTHER, thing), isinstance(thing, list) and thing == [1, 1, 1])
            self.assertIs(grouping_holds(ANY, ONE, OTHER, thing), isinstance(thing, list) and thing == [1, 2])
            for sizes in ([1, 1, thing], [thing, 3], [1, thing, 2]):
                told = isinstance(thing, int) and not isinstance(thing, bool) and thing >= 1 and sum(sizes) == 3
                self.assertIs(grouping_holds(ANY, ONE, OTHER, sizes), told)
        for thing in no_whole_numbers() + [deep_tuple(1, 199), deep_list(1, 199)]:
            self.assertIs(grouping_holds(ANY, (1,), (1,), [thing]), False)
            self.assertIs(grouping_holds(ANY, (1,), (1,), [1, thing]), False)

    def test_against_all_groupings(self):
        seen = {True: 0, False: 0}
        for gap, one, other in like_boxes(81, 300, 5):
            for grouping in all_groupings(len(one)):
                told = grouping_holds(gap, one, other, grouping)
                self.assertIs(told, holds_by_hand(gap, one, other, grouping), (gap, one, other, grouping))
                seen[told] += 1
        self.assertGreater(min(seen.values()), 100, seen)

    def test_what_was_handed_in_stays(self):
        self.assert_unchanged(grouping_holds, LESS, ONE, OTHER, [1, 1, 1])
        self.assert_unchanged(grouping_holds, LESS, ONE, OTHER, [1, [1], {"a": [1]}])


class GroupingOf(Asking):
    def test_by_hand(self):
        self.assertEqual(grouping_of(LESS, ONE, OTHER), [1, 1, 1])
        self.assertEqual(grouping_of(LESS, (5, 4, 9), (4, 4, 9)), [2, 1])
        self.assertEqual(grouping_of(ANY, ONE, OTHER), [3])
        self.assertIsNone(grouping_of(LESS, ONE, (8, 5, 1)))

    def test_of_as_few_groups_the_least_list(self):
        # Both [1, 2] and [2, 1] hold, and [3] does not.
        self.assertIs(grouping_holds(LESS, (5, 6, 6), (5, 5, 6), [3]), False)
        self.assertIs(grouping_holds(LESS, (5, 6, 6), (5, 5, 6), [2, 1]), True)
        self.assertIs(grouping_holds(LESS, (5, 6, 6), (5, 5, 6), [1, 2]), True)
        self.assertEqual(grouping_of(LESS, (5, 6, 6), (5, 5, 6)), [1, 2])

    def test_few_groups_go_ahead_of_a_least_list(self):
        self.assertIs(grouping_holds(LESS, (5, 5, 6), (5, 5, 5), [1, 1, 1]), True)
        self.assertEqual(grouping_of(LESS, (5, 5, 6), (5, 5, 5)), [3])

    def test_boxes_without_pieces(self):
        self.assertEqual(grouping_of(LESS, (), ()), [])
        self.assertEqual(grouping_of(SUM, (), ()), [])

    def test_against_all_groupings(self):
        several = 0
        for gap, one, other in like_boxes(82, 400, 6):
            found = [each for each in all_groupings(len(one)) if holds_by_hand(gap, one, other, each)]
            fewest = [each for each in found if len(each) == min(map(len, found))]
            self.assertEqual(grouping_of(gap, one, other), min(fewest, default=None), (gap, one, other))
            several += len(fewest) > 1
        self.assertGreater(several, 10)

    def test_just_where_all_pieces_are_matched(self):
        seen = {True: 0, False: 0}
        for gap, one, other in like_boxes(83, 300, 10):
            told = grouping_of(gap, one, other)
            self.assertIs(told is not None, len(matched(gap, one, other)) == len(one), (gap, one, other))
            if told is not None:
                self.assertIs(grouping_holds(gap, one, other, told), True)
            seen[told is not None] += 1
        self.assertGreater(min(seen.values()), 20, seen)

    def test_ten_pieces_each(self):
        ten = tuple(range(10))
        self.assertEqual(self.at_once(grouping_of, ANY, ten, ten), [10])
        self.assertEqual(self.at_once(grouping_of, LESS, ten, ten[::-1]), [1] * 10)
        self.assertEqual(self.at_once(grouping_of, (((0, 1), (1, 1)), 9, 9), ten, ten), [1] * 10)
        self.assertEqual(self.at_once(grouping_of, (((0, 1), (1, -1)), -1, 1), ten, ten), [2] * 5)
        self.assertEqual(self.at_once(grouping_of, (((0, 1), (1, -1)), -2, 2), ten, ten), [1, 3, 3, 3])
        self.assertEqual(self.at_once(grouping_of, LESS, (4,) * 10, (4,) * 10), [10])

    def test_long_numbers(self):
        one, other = (GREATEST, -GREATEST), (GREATEST, -GREATEST)
        self.assertEqual(grouping_of((((0, 3), (1, 3)), 0, 0), one, other), [1, 1])
        self.assertEqual(grouping_of((((0, 1), (1, -1)), 0, 0), one, other), [1, 1])
        self.assertIsNone(grouping_of((((0, 3), (1, 2)), 0, 0), one, other))

    def test_what_was_told_is_the_askers_own(self):
        self.assert_told_anew(grouping_of, LESS, ONE, OTHER)
        self.assert_told_anew(grouping_of, LESS, (), ())

    def test_the_same_question_has_the_same_answer(self):
        self.assert_same_again([
            lambda: grouping_of(LESS, ONE, OTHER), lambda: grouping_of(ANY, ONE, OTHER),
            lambda: grouping_holds(LESS, ONE, OTHER, [1, 1, 1]), lambda: grouping_of(LESS, ONE, (8, 5, 1)),
            lambda: vars(refusal_of(self, grouping_of, LESS, (), (1,)))])


class UnlikeBoxes(Asking):
    def test_both_are_refused(self):
        for one, other in [((), (1,)), ((1,), ()), ((1, 2), (1, 2, 3)), ((1,) * 10, (1,) * 9), ((5, 4), (4,))]:
            self.assert_refused(Unlike, {}, grouping_of, ANY, one, other)
            for thing in [[], [1], [2], [len(one)], [len(other)], [1, 1], None, [True], "a"]:
                self.assert_refused(Unlike, {}, grouping_holds, ANY, one, other, thing)

    def test_whatever_is_handed_in(self):
        for thing in whatever():
            self.assert_refused(Unlike, {}, grouping_holds, LESS, (1,), (1, 2), thing)


if __name__ == "__main__":
    unittest.main()
