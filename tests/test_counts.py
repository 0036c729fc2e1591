import collections
import fractions
import unittest

from asking import Asking, refusal_of
from cases import drawing_with, each_small_gap, ends_of, is_kept, random_gaps, sets_of, turned, with_wanted, worth
from gaugewright.counts import commonest, kept_count, middle_worth, nth, number_of, share, spread
from gaugewright.drawings import how_many
from gaugewright.errors import NoSet, TooGreat
from gaugewright.reach import reached
from samples import GREATEST, deep_list, deep_tuple, no_whole_numbers, whatever

WIDE = (-GREATEST, GREATEST)
MANY = 2 * GREATEST + 1  # how many numbers WIDE has
DRAWING = (("a", 0, 2), ("b", 1, 3))
SUM = (((0, 1), (1, 1)), 2, 3)
ALONE = (spread, kept_count, share, middle_worth, commonest)


def small_ones():
    for number, (drawing, gap) in enumerate(each_small_gap()):
        least, greatest = ends_of(drawing, gap)
        yield drawing, with_wanted(gap, least + number % 3, max(least + number % 3, greatest - number % 4))
    yield from random_gaps(31, 150)


def tally_by_all_sets(drawing, gap):
    return collections.Counter(worth(gap, one) for one in sets_of(drawing))


def kept_sets(drawing, gap):
    return [one for one in sets_of(drawing) if is_kept(gap, one)]


class ByHand(Asking):
    def test_counts(self):
        self.assertEqual(spread(DRAWING, SUM), [(1, 1), (2, 2), (3, 3), (4, 2), (5, 1)])
        self.assertEqual(kept_count(DRAWING, SUM), 5)
        self.assertEqual(share(DRAWING, SUM), (5, 9))
        self.assertEqual([nth(DRAWING, SUM, number) for number in range(5)], [(0, 2), (0, 3), (1, 1), (1, 2), (2, 1)])
        self.assertEqual(number_of(DRAWING, SUM, (1, 2)), 3)
        self.assertEqual(middle_worth(DRAWING, SUM), 3)
        self.assertEqual(commonest(DRAWING, SUM), 3)

    def test_kinds(self):
        self.assertIs(type(spread(DRAWING, SUM)), list)
        self.assertIs(type(spread(DRAWING, SUM)[0]), tuple)
        self.assertIs(type(share(DRAWING, SUM)), tuple)
        self.assertIs(type(nth(DRAWING, SUM, 0)), tuple)

    def test_shares(self):
        for low, high, told in [(1, 5, (1, 1)), (0, 9, (1, 1)), (6, 9, (0, 1)), (0, 0, (0, 1)), (3, 3, (1, 3)),
                                (2, 4, (7, 9)), (1, 3, (2, 3)), (1, 1, (1, 9))]:
            self.assertEqual(share(DRAWING, with_wanted(SUM, low, high)), told)
        self.assertEqual(share(drawing_with([(0, 5)]), (((0, 2),), 3, 3)), (0, 1))

    def test_the_least_of_which_half_have_no_greater_one(self):
        gap = (((0, 1),), 0, 0)
        for high in range(0, 9):
            self.assertEqual(middle_worth((("a", 0, high),), gap), high // 2)
        self.assertEqual(middle_worth(drawing_with([(0, 1), (0, 1)]), (((0, 1), (1, 1)), 0, 0)), 1)
        self.assertEqual(middle_worth(drawing_with([(0, 1), (0, 1)]), (((0, 2), (1, 1)), 0, 0)), 1)
        self.assertEqual(middle_worth(drawing_with([(-5, -5)]), (((0, 3),), 0, 0)), -15)

    def test_of_several_the_least_is_told(self):
        self.assertEqual(commonest((("a", -3, 4),), (((0, 1),), 0, 0)), -3)
        self.assertEqual(commonest((("a", -3, 4),), (((0, -2),), 0, 0)), -8)
        self.assertEqual(commonest(drawing_with([(0, 1), (0, 2)]), (((0, 1), (1, 1)), 0, 0)), 1)
        self.assertEqual(commonest(drawing_with([(0, 3), (0, 1)]), (((0, 1), (1, 3)), 0, 0)), 3)


class SmallOnes(Asking):
    def test_against_all_sets(self):
        for drawing, gap in small_ones():
            tally = tally_by_all_sets(drawing, gap)
            self.assertEqual(spread(drawing, gap), sorted(tally.items()))
            kept = kept_sets(drawing, gap)
            self.assertEqual(kept_count(drawing, gap), len(kept))
            part = fractions.Fraction(len(kept), len(sets_of(drawing)))
            self.assertEqual(share(drawing, gap), (part.numerator, part.denominator))
            self.assertEqual(commonest(drawing, gap), min(key for key in tally if tally[key] == max(tally.values())))
            self.assertEqual(middle_worth(drawing, gap), min(
                key for key in tally
                if 2 * sum(many for other, many in tally.items() if other <= key) >= len(sets_of(drawing))))

    def test_places_against_all_sets(self):
        for drawing, gap in small_ones():
            kept = kept_sets(drawing, gap)
            self.assertEqual([nth(drawing, gap, number) for number in range(len(kept))], kept)
            self.assertEqual([number_of(drawing, gap, one) for one in kept], list(range(len(kept))))

    def test_what_breaks_the_gap_has_no_number(self):
        for drawing, gap in random_gaps(32, 60):
            for one in sets_of(drawing):
                if not is_kept(gap, one):
                    self.assert_refused(NoSet, {}, number_of, drawing, gap, one)
            self.assert_refused(NoSet, {}, nth, drawing, gap, kept_count(drawing, gap))

    def test_the_spread_has_what_is_reached_alone(self):
        for drawing, gap in random_gaps(33, 80):
            told = dict(spread(drawing, gap))
            self.assertEqual(sum(told.values()), how_many(drawing))
            self.assertEqual(sum(many for key, many in told.items() if gap[1] <= key <= gap[2]),
                             kept_count(drawing, gap))
            least, greatest = ends_of(drawing, gap)
            for number in range(least - 2, greatest + 3):
                self.assertIs(number in told, reached(drawing, gap, number) is not None)

    def test_wider_spans_and_two_side_by_side(self):
        for drawing, gap in random_gaps(34, 60):
            least, greatest = ends_of(drawing, gap)
            for end in range(least - 1, greatest + 2):
                one = kept_count(drawing, with_wanted(gap, least - 2, end))
                other = kept_count(drawing, with_wanted(gap, end + 1, greatest + 4))
                self.assertEqual(one + other, how_many(drawing))
                self.assertLessEqual(one, kept_count(drawing, with_wanted(gap, least - 2, end + 1)))

    def test_opposites(self):
        for drawing, gap in random_gaps(35, 80):
            other = turned(gap)
            self.assertEqual(kept_count(drawing, other), kept_count(drawing, gap))
            self.assertEqual(share(drawing, other), share(drawing, gap))
            self.assertEqual(spread(drawing, other), [(-key, many) for key, many in reversed(spread(drawing, gap))])


class LongOnes(Asking):
    def test_parts_without_a_term(self):
        drawing = drawing_with([WIDE, (0, 2), WIDE, (1, 3), (GREATEST, GREATEST)])
        gap = (((1, 1), (3, 1)), 2, 3)
        self.assertEqual(self.at_once(spread, drawing, gap),
                         [(key, many * MANY ** 2) for key, many in [(1, 1), (2, 2), (3, 3), (4, 2), (5, 1)]])
        self.assertEqual(self.at_once(kept_count, drawing, gap), 5 * MANY ** 2)
        self.assertEqual(self.at_once(share, drawing, gap), (5, 9))
        self.assertEqual(self.at_once(middle_worth, drawing, gap), 3)
        self.assertEqual(self.at_once(commonest, drawing, gap), 3)

    def test_places_with_parts_without_a_term(self):
        drawing = drawing_with([WIDE, (0, 2), WIDE, (1, 3), (GREATEST, GREATEST)])
        gap = (((1, 1), (3, 1)), 2, 3)
        last = -1
        for number in [0, 1, 2, 3, MANY, 2 * MANY - 1, 2 * MANY, 2 * MANY + 1, 4 * MANY - 1, 4 * MANY, 5 * MANY - 1,
                       5 * MANY, 7 * MANY + 123, 10 ** 90 + 7, 5 * MANY ** 2 - 1]:
            ahead, rest = divmod(number, 5 * MANY)
            # With the second part at 0 or 1 there are two numbers for the fourth, with it at 2 there is one.
            second = min(rest // (2 * MANY), 2)
            rest = rest - second * 2 * MANY
            third, fourth = divmod(rest, (2, 2, 1)[second])
            one = (ahead - GREATEST, second, third - GREATEST, fourth + (2, 1, 1)[second], GREATEST)
            self.assertEqual(self.at_once(nth, drawing, gap, number), one)
            self.assertEqual(self.at_once(number_of, drawing, gap, one), number)
            self.assertGreater(number, last)
            last = number
        self.assert_refused(NoSet, {}, nth, drawing, gap, 5 * MANY ** 2)
        self.assert_refused(NoSet, {}, number_of, drawing, gap, (0, 2, 0, 2, GREATEST))
        self.assert_refused(NoSet, {}, number_of, drawing, gap, (GREATEST + 1, 2, 0, 1, GREATEST))

    def test_long_numbers_and_short_spans(self):
        drawing = drawing_with([(GREATEST - 2, GREATEST), (-GREATEST, 1 - GREATEST)])
        gap = (((0, 1), (1, 1)), -1, 0)
        self.assertEqual(spread(drawing, gap), [(-2, 1), (-1, 2), (0, 2), (1, 1)])
        self.assertEqual(nth(drawing, gap, 3), (GREATEST, -GREATEST))
        self.assertEqual(number_of(drawing, gap, (GREATEST - 1, -GREATEST)), 1)


class TooGreatOnes(Asking):
    def test_reaches_of_four_hundred_numbers(self):
        for drawing, times in [([(0, 399)], [1]), ([(-133, 0)], [3]), ([(0, 133)], [-3]),
                               ([(0, 200), (0, 199)], [1, -1]), ([(0, 57)] * 7, [1] * 7),
                               ([(0, 66), (0, 66), (0, 1)], [-3, 3, 3])]:
            drawing = drawing_with(drawing)
            gap = (tuple(enumerate(times)), 0, 0)
            least, greatest = ends_of(drawing, gap)
            self.assertEqual(greatest - least + 1, 400)
            self.assertEqual(sum(many for key, many in self.at_once(spread, drawing, gap)), how_many(drawing))
            asked = with_wanted(gap, least, greatest - 1)
            self.assertEqual(self.at_once(kept_count, drawing, asked), how_many(drawing) - 1)
            last = self.at_once(nth, drawing, asked, how_many(drawing) - 2)
            self.assertEqual(self.at_once(number_of, drawing, asked, last), how_many(drawing) - 2)

    def test_reaches_of_more(self):
        for drawing, times, many in [([(0, 400)], [1], 401), ([(0, 200)], [2], 401), ([(0, 134)], [3], 403),
                                     ([(0, 200), (0, 200)], [1, -1], 401), ([(0, 50)] * 8, [1] * 8, 401),
                                     ([WIDE], [1], MANY), ([WIDE] * 8, [-3] * 8, 48 * GREATEST + 1)]:
            drawing = drawing_with(drawing)
            for low in (0, GREATEST):
                gap = (tuple(enumerate(times)), low, GREATEST)
                for ask in ALONE:
                    self.assert_refused(TooGreat, {"many": many, "most": 400}, ask, drawing, gap)
                for ask in (nth, number_of):
                    self.assert_refused(TooGreat, {"many": many, "most": 400}, ask, drawing, gap, 0)

    def test_it_goes_ahead_of_no_set(self):
        drawing = (("a", 0, 400),)
        gap = (((0, 1),), 5, 9)
        for thing in [None, True, -1, 5, 10 ** 80, "", (), (4,), (5,), [5], {}, deep_list(1, 200)]:
            for ask in (nth, number_of):
                self.assert_refused(TooGreat, {"many": 401, "most": 400}, ask, drawing, gap, thing)

    def test_the_parts_of_the_gap_alone_count(self):
        drawing = drawing_with([WIDE, (0, 399), WIDE])
        self.assertEqual(kept_count(drawing, (((1, 1),), 0, 0)), MANY ** 2)
        self.assert_refused(TooGreat, {"many": MANY, "most": 400}, kept_count, drawing, (((2, 1),), 0, 0))


class Whatever(Asking):
    def test_no_number_of_a_set(self):
        for thing in no_whole_numbers() + [-1, 5, 6, 10 ** 80, -10 ** 80, 10 ** 5000]:
            self.assert_refused(NoSet, {}, nth, DRAWING, SUM, thing)
        self.assertEqual(nth(DRAWING, SUM, 1), (0, 3))
        self.assert_refused(NoSet, {}, nth, DRAWING, with_wanted(SUM, 9, 9), 0)

    def test_no_set(self):
        for thing in whatever() + [[0, 2], (0,), (0, 2, 0), (0, 4), (-1, 3), (0, 1), (2, 3), "02", {0: 2}, ((0, 2),)]:
            self.assert_refused(NoSet, {}, number_of, DRAWING, SUM, thing)
        for thing in no_whole_numbers() + [deep_tuple(1, 198), deep_list(1, 198)]:
            self.assert_refused(NoSet, {}, number_of, DRAWING, SUM, (thing, 2))
            self.assert_refused(NoSet, {}, number_of, DRAWING, SUM, (0, thing))

    def test_truths_are_no_numbers(self):
        self.assertEqual(number_of(DRAWING, SUM, (1, 1)), 2)
        for thing in [(True, 1), (1, True), (True, True), (False, 2)]:
            self.assert_refused(NoSet, {}, number_of, DRAWING, SUM, thing)

    def test_what_was_handed_in_stays(self):
        for thing in [[0, 2], {"a": [1]}]:
            for ask in (nth, number_of):
                kept = repr(thing)
                self.assert_refused(NoSet, {}, ask, DRAWING, SUM, thing)
                self.assertEqual(repr(thing), kept)

    def test_what_was_told_is_the_askers_own(self):
        self.assert_told_anew(spread, DRAWING, SUM)

    def test_the_same_question_has_the_same_answer(self):
        wide = drawing_with([WIDE])
        self.assert_same_again(
            [lambda ask=ask: ask(DRAWING, SUM) for ask in ALONE]
            + [lambda: nth(DRAWING, SUM, 2), lambda: number_of(DRAWING, SUM, (0, 3)),
               lambda: vars(refusal_of(self, spread, wide, (((0, 1),), 0, 0))),
               lambda: kept_count(DRAWING, turned(SUM))])


if __name__ == "__main__":
    unittest.main()
