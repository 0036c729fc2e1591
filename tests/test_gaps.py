import unittest

from asking import Asking
from cases import each_small_gap, is_kept, long_gaps, sets_of, with_wanted, worth
from gaugewright.drawings import first_set, last_set
from gaugewright.gaps import is_gap, keeps, worth_of
from samples import GREATEST, LONG_END, TOO_LONG, deep_list, deep_tuple, no_whole_numbers, whatever

THREE = (("a", 0, 4), ("b", -3, 3), ("c", 5, 5))
EIGHT = tuple((name, 0, 1) for name in "abcdefgh")
GAP = (((0, 1), (2, -2)), -4, 6)


class IsGap(Asking):
    def assert_no_gap(self, thing, drawing=THREE):
        self.assertIs(is_gap(drawing, thing), False)

    def test_gaps(self):
        for gap in [GAP, (((0, 1),), 0, 0), (((2, -3),), -5, -5), (((0, 3), (1, -3), (2, 1)), -GREATEST, GREATEST),
                    (((1, 2), (2, 2)), GREATEST, GREATEST), (((0, -1), (1, -1)), -GREATEST, -GREATEST)]:
            self.assertIs(is_gap(THREE, gap), True)
        for drawing, gap in each_small_gap():
            self.assertIs(is_gap(drawing, gap), True)
        self.assertIs(is_gap(EIGHT, (tuple((part, 1) for part in range(8)), 0, 8)), True)

    def test_whether_it_can_hold_is_no_matter(self):
        self.assertIs(is_gap(THREE, (((2, 2),), 999, 1000)), True)

    def test_one_to_eight_terms(self):
        self.assert_no_gap(((), 0, 1))
        nine = EIGHT + (("i", 0, 1),)
        self.assertIs(is_gap(nine, (tuple((part, 1) for part in range(1, 9)), 0, 8)), True)
        self.assert_no_gap((tuple((part, 1) for part in range(9)), 0, 9), nine)
        self.assert_no_gap((tuple((part, 1) for part in range(9)), 0, 9), EIGHT)

    def test_parts_of_the_drawing(self):
        for part in [-1, -3, 3, 4, 10 ** 80, -10 ** 80]:
            self.assert_no_gap((((part, 1),), 0, 1))
            self.assert_no_gap((((0, 1), (part, 1)), 0, 1))
        self.assert_no_gap((((1, 1),), 0, 1), THREE[:1])

    def test_each_part_is_greater_than_the_one_ahead(self):
        for parts in [(0, 0), (1, 0), (0, 2, 1), (0, 1, 1), (2, 2), (1, 2, 0)]:
            self.assert_no_gap((tuple((part, 1) for part in parts), 0, 1))
        for parts in [(0, 1), (0, 2), (1, 2), (0, 1, 2)]:
            self.assertIs(is_gap(THREE, (tuple((part, 1) for part in parts), 0, 1)), True)

    def test_times(self):
        for times in range(-6, 7):
            self.assertIs(is_gap(THREE, (((1, times),), 0, 1)), times != 0 and -3 <= times <= 3)
            self.assertIs(is_gap(THREE, (((0, 1), (1, times)), 0, 1)), times != 0 and -3 <= times <= 3)
        self.assert_no_gap((((0, 10 ** 80),), 0, 1))
        self.assert_no_gap((((0, 0),), 0, 0))

    def test_the_span_wanted(self):
        terms = GAP[0]
        for low, high in [(1, 0), (0, -1), (GREATEST, -GREATEST), (0, TOO_LONG), (-TOO_LONG, 0), (TOO_LONG, TOO_LONG),
                          (-TOO_LONG, -TOO_LONG), (-LONG_END, LONG_END)]:
            self.assert_no_gap((terms, low, high))
        for low, high in [(0, 0), (0, 1), (-1, 0), (-GREATEST, GREATEST)]:
            self.assertIs(is_gap(THREE, (terms, low, high)), True)

    def test_truths_are_no_numbers(self):
        for thing in [(((False, 1),), 0, 1), (((0, True),), 0, 1), (((0, 1), (True, 1)), 0, 1),
                      (((0, 1),), False, 1), (((0, 1),), 0, True), (((0, 1),), False, True)]:
            self.assert_no_gap(thing)
        self.assertIs(is_gap(THREE, (((0, 1), (1, 1)), 0, 1)), True)

    def test_tuples_alone(self):
        for thing in [list(GAP), [list(GAP[0]), -4, 6], (list(GAP[0]), -4, 6), ([0, 1], -4, 6), (([0, 1],), -4, 6),
                      (((0, 1), [2, -2]), -4, 6), ({0: 1}, -4, 6), ({(0, 1): 1}, -4, 6), (GAP,), {0: GAP}, [GAP]]:
            self.assert_no_gap(thing)

    def test_another_number_of_things(self):
        for thing in [GAP[:2], GAP + (1,), GAP[:1], (GAP[0], (-4, 6)), ((0, 1), -4, 6), (((0,),), -4, 6), ((0,), -4, 6),
                      (((0, 1, 1),), -4, 6), (((),), -4, 6), (0, -4, 6), (0, 1, -4, 6), "abc", (((0, 1),), 0)]:
            self.assert_no_gap(thing)

    def test_whatever(self):
        for thing in whatever():
            self.assert_no_gap(thing)
            self.assertIs(is_gap(THREE, (thing, 0, 1)), thing == ((1, 2),))
            self.assert_no_gap(((thing,), 0, 1))
            self.assert_no_gap((((0, 1), thing), 0, 1))
        for thing in no_whole_numbers() + [deep_tuple(1, 197), deep_list(1, 197)]:
            for no_gap in [(((thing, 1),), 0, 1), (((0, thing),), 0, 1), (((0, 1),), thing, 1), (((0, 1),), 0, thing)]:
                self.assert_no_gap(no_gap)

    def test_what_was_handed_in_stays(self):
        self.assert_unchanged(is_gap, THREE, [[[0, 1]], {"a": [0]}, 1])
        self.assert_unchanged(is_gap, THREE, ([(0, 1)], [0], 1))


class Worths(Asking):
    def test_worths(self):
        self.assertEqual(worth_of(GAP, (4, -3, 5)), -6)
        self.assertEqual(worth_of((((1, -3),), 0, 0), (4, -3, 5)), 9)
        self.assertEqual(worth_of((((0, 2), (1, 3), (2, 1)), 0, 0), (4, -3, 5)), 4)

    def test_all_small_ones(self):
        for drawing, gap in each_small_gap():
            for one in sets_of(drawing):
                told = worth_of(gap, one)
                self.assertEqual(told, worth(gap, one))
                for low, high in [(told, told), (told - 1, told), (told, told + 1)]:
                    self.assertIs(keeps(with_wanted(gap, low, high), one), True)
                for low, high in [(told + 1, told + 9), (told - 9, told - 1), (told + 1, told + 1)]:
                    self.assertIs(keeps(with_wanted(gap, low, high), one), False)

    def test_long_numbers(self):
        self.assertEqual(worth_of((((0, 3), (1, -2)), 0, 0), (GREATEST, -GREATEST)), 5 * GREATEST)
        self.assertIs(keeps((((0, 1),), -GREATEST, GREATEST), (GREATEST,)), True)
        self.assertIs(keeps((((0, 1), (1, 1)), -GREATEST, GREATEST), (GREATEST, 1)), False)
        for drawing, gap in long_gaps(2, 100):
            for one in [first_set(drawing), last_set(drawing)]:
                self.assertEqual(worth_of(gap, one), worth(gap, one))
                self.assertIs(keeps(gap, one), is_kept(gap, one))

    def test_the_same_question_has_the_same_answer(self):
        self.assert_same_again([
            lambda: is_gap(THREE, GAP), lambda: is_gap(THREE, (GAP,)), lambda: worth_of(GAP, (1, 1, 1)),
            lambda: keeps(GAP, (4, -3, 5)), lambda: keeps(GAP, (4, -3, 4))])


if __name__ == "__main__":
    unittest.main()
