import unittest

from asking import Asking
from cases import (
    always_kept, drawing_with, each_small_gap, ends_of, first_sets_by_worth, is_kept, long_gaps, random_gaps, sets_of,
    turned, with_wanted, worth,
)
from gaugewright.drawings import first_set, is_set, last_set, narrowed
from gaugewright.gaps import keeps, worth_of
from gaugewright.reach import downward, highest, lowest, reach, reached, slack, upward, verdict
from samples import GREATEST

WIDE = (-GREATEST, GREATEST)
FAR = 10 ** 100 - 1  # a hundred figures


def widened(span):
    return range(span[0] - 5, span[1] + 6)


def wanted_beside(least, greatest):
    """Spans wanted of one number and of more: at the ends of the reach, beside them and amid."""
    marks = sorted({least - 2, least - 1, least, least + 1, least + 2, (least + greatest) // 2,
                    greatest - 2, greatest - 1, greatest, greatest + 1, greatest + 2})
    return [(low, high) for low in marks for high in marks if low <= high]


def word_by_all_sets(drawing, gap):
    kept = [is_kept(gap, one) for one in sets_of(drawing)]
    return "always" if all(kept) else "sometimes" if any(kept) else "never"


class SmallOnes(Asking):
    def test_reach_and_its_sets(self):
        for drawing, gap in each_small_gap():
            found = first_sets_by_worth(drawing, gap)
            told = reach(drawing, gap)
            self.assertEqual(told, (min(found), max(found)))
            self.assertIs(type(told), tuple)
            self.assertEqual(lowest(drawing, gap), found[min(found)])
            self.assertEqual(highest(drawing, gap), found[max(found)])

    def test_reached(self):
        for drawing, gap in each_small_gap():
            found = first_sets_by_worth(drawing, gap)
            for number in widened((min(found), max(found))):
                self.assertEqual(reached(drawing, gap, number), found.get(number), (drawing, gap, number))

    def test_upward_and_downward(self):
        for drawing, gap in each_small_gap():
            found = first_sets_by_worth(drawing, gap)
            for number in widened((min(found), max(found))):
                above = [one for one in found if one >= number]
                below = [one for one in found if one <= number]
                self.assertEqual(upward(drawing, gap, number), min(above, default=None), (drawing, gap, number))
                self.assertEqual(downward(drawing, gap, number), max(below, default=None), (drawing, gap, number))

    def test_verdict_and_slack(self):
        for drawing, gap in random_gaps(3, 150):
            least, greatest = ends_of(drawing, gap)
            for low, high in wanted_beside(least, greatest):
                asked = with_wanted(gap, low, high)
                self.assertEqual(verdict(drawing, asked), word_by_all_sets(drawing, asked), (drawing, asked))
                self.assertEqual(slack(drawing, asked), (least - low, high - greatest))

    def test_what_always_or_never_holds_does_so_when_narrowed(self):
        for drawing, gap in random_gaps(4, 100):
            word = verdict(drawing, gap)
            for part, (name, low, high) in enumerate(drawing):
                for span in [(low, low), (high, high), (low, (low + high) // 2)]:
                    if word != "sometimes":
                        self.assertEqual(verdict(narrowed(drawing, part, span), gap), word)

    def test_opposites(self):
        for drawing, gap in random_gaps(5, 100):
            other = turned(gap)
            self.assertEqual(verdict(drawing, other), verdict(drawing, gap))
            self.assertEqual(slack(drawing, other), slack(drawing, gap)[::-1])
            self.assertEqual(lowest(drawing, other), highest(drawing, gap))
            for one in sets_of(drawing):
                self.assertIs(keeps(other, one), keeps(gap, one))

    def test_the_set_of_a_sets_own_worth_is_no_later(self):
        for drawing, gap in random_gaps(6, 60):
            for one in sets_of(drawing):
                told = reached(drawing, gap, worth_of(gap, one))
                self.assertLessEqual(told, one)
                self.assertEqual(worth(gap, told), worth(gap, one))


class OneByOne(Asking):
    def test_each_second_number_alone(self):
        drawing = (("a", 0, 5),)
        gap = (((0, 2),), 3, 3)
        self.assertEqual(reach(drawing, gap), (0, 10))
        self.assertEqual(verdict(drawing, gap), "never")
        self.assertEqual(verdict(drawing, with_wanted(gap, 3, 4)), "sometimes")
        self.assertEqual(verdict(drawing, with_wanted(gap, 0, 10)), "always")
        self.assertEqual((upward(drawing, gap, 3), downward(drawing, gap, 3)), (4, 2))
        self.assertIsNone(reached(drawing, gap, 3))
        self.assertEqual(reached(drawing, gap, 4), (2,))

    def test_each_third_number_alone(self):
        drawing = (("a", 1, 4), ("b", 0, 2))
        gap = (((0, 3), (1, -3)), 1, 2)
        self.assertEqual(reach(drawing, gap), (-3, 12))
        self.assertEqual(verdict(drawing, gap), "never")
        self.assertEqual((upward(drawing, gap, 1), downward(drawing, gap, -1)), (3, -3))

    def test_twos_and_threes(self):
        drawing = (("a", 0, 9), ("b", 0, 9))
        gap = (((0, 2), (1, 3)), 1, 1)
        self.assertEqual(reach(drawing, gap), (0, 45))
        self.assertEqual(verdict(drawing, gap), "never")
        self.assertEqual(verdict(drawing, with_wanted(gap, 44, 44)), "never")
        self.assertEqual(verdict(drawing, with_wanted(gap, 43, 43)), "sometimes")
        self.assertEqual([reached(drawing, gap, number) for number in (0, 1, 2, 5, 6, 44, 45)],
                         [(0, 0), None, (1, 0), (1, 1), (0, 2), None, (9, 9)])

    def test_parts_without_a_term_stay_low(self):
        drawing = (("a", -4, 4), ("b", 1, 3), ("c", 2, 7))
        gap = (((1, -1),), -2, 5)
        self.assertEqual(lowest(drawing, gap), (-4, 3, 2))
        self.assertEqual(highest(drawing, gap), (-4, 1, 2))
        self.assertEqual(reached(drawing, gap, -2), (-4, 2, 2))

    def test_slack(self):
        drawing = (("a", 2, 5),)
        for low, high, told in [(2, 5, (0, 0)), (1, 7, (1, 2)), (3, 4, (-1, -1)), (3, 9, (-1, 4)), (0, 4, (2, -1)),
                                (9, 9, (-7, 4)), (-3, -3, (5, -8))]:
            self.assertEqual(slack(drawing, (((0, 1),), low, high)), told)


class LongOnes(Asking):
    def test_reach_and_its_sets(self):
        for drawing, gap in long_gaps(7, 150):
            least, greatest = ends_of(drawing, gap)
            self.assertEqual(reach(drawing, gap), (least, greatest))
            for told, number in [(lowest(drawing, gap), least), (highest(drawing, gap), greatest)]:
                self.assertIs(is_set(drawing, told), True)
                self.assertEqual(worth(gap, told), number)
                self.assertEqual(told, reached(drawing, gap, number))
                taken = [part for part, times in gap[0]]
                for part, low in enumerate(first_set(drawing)):
                    self.assertTrue(part in taken or told[part] == low)
            self.assertEqual(slack(drawing, gap), (least - gap[1], gap[2] - greatest))

    def test_all_is_told_at_once(self):
        drawing = drawing_with([WIDE] * 8)
        for times in [(1,) * 8, (2,) * 8, (-3,) * 8, (2, 3) * 4, (-2, 3, -3, 2) * 2, (1, -2, 3, -1) * 2]:
            gap = (tuple(enumerate(times)), -1, 1)
            for ask in [reach, verdict, lowest, highest, slack]:
                self.at_once(ask, drawing, gap)
            for number in [0, 1, -1, GREATEST, -GREATEST, 10 ** 60 + 1, FAR, -FAR]:
                for ask in [reached, upward, downward]:
                    self.at_once(ask, drawing, gap, number)

    def test_numbers_of_a_hundred_figures(self):
        for drawing, gap in long_gaps(8, 40):
            least, greatest = ends_of(drawing, gap)
            self.assertIsNone(reached(drawing, gap, FAR))
            self.assertIsNone(reached(drawing, gap, -FAR))
            self.assertIsNone(upward(drawing, gap, FAR))
            self.assertEqual(upward(drawing, gap, -FAR), least)
            self.assertEqual(downward(drawing, gap, FAR), greatest)
            self.assertIsNone(downward(drawing, gap, -FAR))

    def test_upward_downward_and_reached_are_of_one_mind(self):
        for drawing, gap in long_gaps(9, 60):
            least, greatest = ends_of(drawing, gap)
            for middle in [least, greatest, (least + greatest) // 2, worth(gap, last_set(drawing)), 0]:
                for number in range(middle - 3, middle + 4):
                    self.check_number(drawing, gap, number, least, greatest)

    def check_number(self, drawing, gap, number, least, greatest):
        told = reached(drawing, gap, number)
        above = upward(drawing, gap, number)
        below = downward(drawing, gap, number)
        self.assertIs(above is None, number > greatest)
        self.assertIs(below is None, number < least)
        if told is not None:
            self.assertEqual((above, below), (number, number))
            self.assertIs(is_set(drawing, told), True)
            self.assertEqual(worth(gap, told), number)
            self.check_first(drawing, gap, told, number)
        if above is not None:
            self.assertGreaterEqual(above, number)
            self.assertEqual(worth(gap, reached(drawing, gap, above)), above)
            for between in range(max(number, least), above):
                self.assertIsNone(reached(drawing, gap, between))
        if below is not None:
            self.assertLessEqual(below, number)
            self.assertEqual(worth(gap, reached(drawing, gap, below)), below)

    def check_first(self, drawing, gap, told, number):
        for part, (name, low, high) in enumerate(drawing):
            if told[part] > low:
                earlier = drawing
                for ahead in range(part):
                    earlier = narrowed(earlier, ahead, (told[ahead], told[ahead]))
                earlier = narrowed(earlier, part, (low, told[part] - 1))
                self.assertNotEqual(upward(earlier, gap, number), number)

    def test_first_sets_by_hand(self):
        drawing = drawing_with([(0, GREATEST), (0, GREATEST)])
        gap = (((0, 2), (1, 3)), 0, 0)
        self.assertEqual(reached(drawing, gap, 3 * GREATEST), (0, GREATEST))
        self.assertEqual(reached(drawing, gap, 3 * GREATEST + 1), (2, GREATEST - 1))
        self.assertEqual(reached(drawing, gap, 3 * GREATEST + 2), (1, GREATEST))
        self.assertEqual(reached(drawing, gap, 5 * GREATEST), (GREATEST, GREATEST))
        self.assertIsNone(reached(drawing, gap, 5 * GREATEST - 1))
        self.assertIsNone(reached(drawing, gap, 1))
        twos = (((0, 2), (1, -2)), 0, 0)
        self.assertEqual(reached(drawing, twos, 2 * GREATEST), (GREATEST, 0))
        self.assertEqual(reached(drawing, twos, -2), (0, 1))
        self.assertIsNone(reached(drawing, twos, GREATEST))  # odd
        self.assertEqual(reached(drawing, twos, GREATEST + 1), ((GREATEST + 1) // 2, 0))

    def test_verdict(self):
        for drawing, gap in long_gaps(10, 150):
            least, greatest = ends_of(drawing, gap)
            for low, high in [(gap[1], gap[2])] + wanted_beside(least, greatest):
                asked = with_wanted(gap, low, high)
                word = verdict(drawing, asked)
                self.assertIs(word == "always", always_kept(drawing, asked))
                self.assertIs(word == "always", min(slack(drawing, asked)) >= 0)
                above = upward(drawing, asked, low)
                self.assertIs(word == "never", above is None or above > high)
                self.assertIs(word == "never", all(reached(drawing, asked, number) is None
                                                   for number in range(low, min(high, low + 12) + 1)))
                self.assertEqual(verdict(drawing, turned(asked)), word)

    def test_each_second_number_of_long_spans(self):
        drawing = drawing_with([WIDE, WIDE])
        gap = (((0, 2), (1, -2)), 10 ** 50 + 1, 10 ** 50 + 1)
        self.assertEqual(verdict(drawing, gap), "never")
        self.assertEqual(verdict(drawing, with_wanted(gap, 10 ** 50, 10 ** 50)), "sometimes")
        self.assertEqual(upward(drawing, gap, 10 ** 50 + 1), 10 ** 50 + 2)
        self.assertEqual(downward(drawing, gap, 10 ** 50 + 1), 10 ** 50)

    def test_the_same_question_has_the_same_answer(self):
        drawing = drawing_with([(0, 4), WIDE, (2, 2)])
        gap = (((0, 2), (1, 3), (2, 1)), 5, 5)
        self.assert_same_again([
            lambda: reach(drawing, gap), lambda: verdict(drawing, gap), lambda: lowest(drawing, gap),
            lambda: highest(drawing, gap), lambda: reached(drawing, gap, 5), lambda: upward(drawing, gap, 6),
            lambda: downward(drawing, gap, 6), lambda: slack(drawing, gap), lambda: reached(drawing, turned(gap), 5)])


if __name__ == "__main__":
    unittest.main()
