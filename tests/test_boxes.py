import itertools
import random
import unittest

from asking import Asking
from cases import TIMES
from gaugewright.boxes import cover_holds, cover_of, is_box, matched, pairs
from samples import GREATEST, LONG_END, TOO_LONG, deep_list, deep_tuple, no_whole_numbers, whatever

LESS = (((0, 1), (1, -1)), 0, 1)  # the one's piece is as great as the other's or greater by one
ANY = (((0, 1), (1, 1)), -GREATEST, GREATEST)
ONE = (5, 3, 9)
OTHER = (4, 5, 3, 20)


def pairs_by_hand(gap, one, other):
    ((first, s), (second, t)), low, high = gap
    return [(i, j) for i in range(len(one)) for j in range(len(other)) if low <= s * one[i] + t * other[j] <= high]


def all_matchings(fitting, chosen=()):
    yield list(chosen)
    for place, (i, j) in enumerate(fitting):
        further = [pair for pair in fitting[place + 1:] if pair[0] != i and pair[1] != j]
        yield from all_matchings(further, chosen + ((i, j),))


def covers(fitting, one, other):
    for ones in rising_tuples(len(one)):
        for others in rising_tuples(len(other)):
            if all(i in ones or j in others for i, j in fitting):
                yield (ones, others)


def rising_tuples(size):
    return [numbers for many in range(size + 1) for numbers in itertools.combinations(range(size), many)]


def small_boxes(seed, many, pieces):
    source = random.Random(seed)
    for step in range(many):
        one, other = [tuple(source.randint(-4, 4) for piece in range(source.randint(0, pieces))) for box in "ab"]
        low = source.randint(-9, 9)
        yield ((0, source.choice(TIMES)), (1, source.choice(TIMES))), low, low + source.randint(0, 7), one, other


class Boxes(Asking):
    def test_boxes(self):
        for thing in [(), (0,), (1, 1, 1), (-3, 7), tuple(range(10)), (GREATEST, -GREATEST), (5,) * 10]:
            self.assertIs(is_box(thing), True)

    def test_no_boxes(self):
        for thing in [[], [1], tuple(range(11)), (1,) * 12, (TOO_LONG,), (-TOO_LONG,), (1, LONG_END), (1, None),
                      (True,), (1, False), ("1",), ((1,),), ([1],), {1: 2}, {}, "", "123", 5, None, True, (1, (2,))]:
            self.assertIs(is_box(thing), False)

    def test_whatever(self):
        for thing in whatever():
            told = isinstance(thing, tuple) and thing in ((), (1,))
            self.assertIs(is_box(thing), told)
        for thing in no_whole_numbers() + [deep_tuple(1, 199), deep_list(1, 199)]:
            self.assertIs(is_box((thing,)), False)
            self.assertIs(is_box((1, 2, thing)), False)

    def test_what_was_handed_in_stays(self):
        self.assert_unchanged(is_box, [1, [2], {"a": [3]}])
        self.assert_unchanged(is_box, (1, [2]))


class Pairs(Asking):
    def test_by_hand(self):
        self.assertEqual(pairs(LESS, ONE, OTHER), [(0, 0), (0, 1), (1, 2)])
        self.assertEqual(pairs((((0, 2), (1, -3)), -5, -5), ONE, OTHER), [(0, 1)])
        self.assertEqual(pairs(ANY, (1, 1), (2, 2)), [(0, 0), (0, 1), (1, 0), (1, 1)])

    def test_against_all_tuples(self):
        for terms, low, high, one, other in small_boxes(41, 300, 6):
            self.assertEqual(pairs((terms, low, high), one, other), pairs_by_hand((terms, low, high), one, other))

    def test_both_ends_of_the_span_wanted_fit(self):
        for number in range(0, 9):
            self.assertEqual(pairs((((0, 3), (1, 1)), 3, 6), (1,), (number,)), [(0, 0)] if number <= 3 else [])
            self.assertEqual(pairs((((0, -3), (1, 1)), 3, 6), (-1,), (-number,)), [(0, 0)] if number == 0 else [])

    def test_boxes_without_pieces(self):
        for ask in (pairs, matched):
            for one, other in [((), ()), ((), (1, 2)), ((1, 2), ())]:
                self.assertEqual(ask(ANY, one, other), [])
        for one, other in [((), ()), ((), (1, 2)), ((1, 2), ())]:
            self.assertEqual(cover_of(ANY, one, other), ((), ()))
            self.assertIs(cover_holds(ANY, one, other, ((), ())), True)

    def test_long_numbers(self):
        one, other = (GREATEST, GREATEST - 1, -GREATEST), (-GREATEST, GREATEST)
        self.assertEqual(pairs((((0, 1), (1, 1)), 0, 0), one, other), [(0, 0), (2, 1)])
        self.assertEqual(pairs((((0, 3), (1, 3)), -3, -1), one, other), [(1, 0)])
        self.assertEqual(matched((((0, 3), (1, 3)), -3, 0), one, other), [(0, 0), (2, 1)])


class Matched(Asking):
    def test_by_hand(self):
        self.assertEqual(matched(LESS, ONE, OTHER), [(0, 0), (1, 2)])
        self.assertEqual(matched(LESS, (5, 4), (4, 3)), [(0, 0), (1, 1)])
        self.assertEqual(matched(LESS, (5, 4), (4, 5)), [(0, 1), (1, 0)])
        self.assertEqual(matched(LESS, (9, 1), (5, 5)), [])

    def test_the_most_goes_ahead_of_the_least(self):
        # The first piece's least partner is the only one of the second.
        self.assertEqual(matched(LESS, (5, 4), (4, 5, 9)), [(0, 1), (1, 0)])
        # Of as many the least list has the first piece, though the last two alone would do.
        self.assertEqual(matched(LESS, (4, 4, 5), (4, 5)), [(0, 0), (2, 1)])

    def test_against_all_matchings(self):
        for terms, low, high, one, other in small_boxes(42, 500, 4):
            gap = (terms, low, high)
            found = list(all_matchings(pairs_by_hand(gap, one, other)))
            most = max(len(matching) for matching in found)
            least = min(matching for matching in found if len(matching) == most)
            self.assertEqual(matched(gap, one, other), least, (gap, one, other))

    def test_like_numbers(self):
        self.assertEqual(matched(LESS, (4,) * 10, (4,) * 10), [(i, i) for i in range(10)])
        self.assertEqual(matched(LESS, (4,) * 3, (4,) * 10), [(i, i) for i in range(3)])
        self.assertEqual(matched(LESS, (4,) * 10, (4,) * 3), [(i, i) for i in range(3)])

    def test_ten_pieces_each(self):
        ten = tuple(range(10))
        self.assertEqual(self.at_once(matched, ANY, ten, ten), [(i, i) for i in range(10)])
        # Each piece fits all the other's that are no greater: the last ones have to be left for the first.
        self.assertEqual(self.at_once(matched, (((0, 1), (1, -1)), 0, 99), tuple(reversed(ten)), ten),
                         [(i, 9 - i) for i in range(10)])
        self.assertEqual(self.at_once(matched, (((0, 1), (1, -1)), 0, 99), ten, ten), [(i, i) for i in range(10)])
        self.assertEqual(self.at_once(matched, (((0, 1), (1, -1)), 1, 99), ten, ten),
                         [(i, i - 1) for i in range(1, 10)])
        source = random.Random(43)
        for step in range(40):
            one, other = [tuple(source.randint(0, 12) for piece in ten) for box in "ab"]
            gap = (((0, 1), (1, -1)), -2, source.randint(-2, 4))
            told = self.at_once(matched, gap, one, other)
            cover = self.at_once(cover_of, gap, one, other)
            self.assertIs(cover_holds(gap, one, other, cover), True)
            self.assertEqual(len(told), len(cover[0]) + len(cover[1]))
            self.check_matching(told, pairs_by_hand(gap, one, other))

    def check_matching(self, told, fitting):
        self.assertEqual(told, sorted(told))
        self.assertTrue(set(told) <= set(fitting))
        for side in (0, 1):
            self.assertEqual(len({pair[side] for pair in told}), len(told))


class Covers(Asking):
    def test_by_hand(self):
        self.assertEqual(pairs(LESS, ONE, OTHER), [(0, 0), (0, 1), (1, 2)])
        for thing in [((0, 1), ()), ((0,), (2,)), ((0, 1, 2), (0, 1, 2, 3)), ((1,), (0, 1)), ((), (0, 1, 2))]:
            self.assertIs(cover_holds(LESS, ONE, OTHER, thing), True)
        for thing in [((), ()), ((0,), ()), ((1,), (0,)), ((2,), (0, 1)), ((1, 2), (3,)), ((), (0, 1, 3))]:
            self.assertIs(cover_holds(LESS, ONE, OTHER, thing), False)

    def test_one_thing_otherwise(self):
        for thing in [
            [(0, 1), ()], ([0, 1], ()), ((0, 1), []), ((0, 1), None), ((0, 1),), ((0, 1), (), ()), ((1, 0), ()),
            ((0, 0, 1), ()), ((0, 1, 1), ()), ((0, 1, 3), ()), ((-1, 0, 1), ()), ((0, 1), (4,)), ((0, 1), (-1,)),
            ((0, 1), (2, 2)), ((0, 1), (3, 2)), ((0, True), ()), ((False, 1), ()), ((0, 1), (True,)), ((0, "1"), ()),
            ((0, 1, 10 ** 80), ()), ({0: 1, 1: 1}, ()), "ab", (0, 1), ((0, (1,)), ()), ((0, 1), ((),)), {},
        ]:
            self.assertIs(cover_holds(LESS, ONE, OTHER, thing), False, thing)

    def test_whatever(self):
        for thing in whatever():
            self.assertIs(cover_holds(LESS, ONE, OTHER, thing), False)
            rising = isinstance(thing, tuple) and thing in ((), (1,))
            self.assertIs(cover_holds(LESS, ONE, OTHER, (thing, (0, 1, 2))), rising)
            self.assertIs(cover_holds(LESS, ONE, OTHER, ((0, 1), thing)), rising)
        for thing in no_whole_numbers() + [deep_tuple(1, 198), deep_list(1, 198)]:
            self.assertIs(cover_holds(LESS, ONE, OTHER, ((0, 1, thing), ())), False)
            self.assertIs(cover_holds(LESS, ONE, OTHER, ((0, 1), (thing,))), False)

    def test_against_all_covers(self):
        for terms, low, high, one, other in small_boxes(44, 120, 3):
            gap = (terms, low, high)
            found = list(covers(pairs_by_hand(gap, one, other), one, other))
            for ones in rising_tuples(len(one)):
                for others in rising_tuples(len(other)):
                    self.assertIs(cover_holds(gap, one, other, (ones, others)), (ones, others) in found)
            told = cover_of(gap, one, other)
            self.assertIn(told, found)
            self.assertEqual(len(told[0]) + len(told[1]), min(len(ones) + len(others) for ones, others in found))

    def test_as_many_pieces_as_the_matching_has_tuples(self):
        for terms, low, high, one, other in small_boxes(45, 400, 10):
            gap = (terms, low, high)
            told = cover_of(gap, one, other)
            self.assertEqual(len(told[0]) + len(told[1]), len(matched(gap, one, other)))
            self.assertIs(cover_holds(gap, one, other, told), True)

    def test_ten_pieces_each(self):
        ten = tuple(range(10))
        told = self.at_once(cover_of, ANY, ten, ten)
        self.assertEqual(len(told[0]) + len(told[1]), 10)
        self.assertIs(self.at_once(cover_holds, ANY, ten, ten, told), True)
        self.assertIs(cover_holds(ANY, ten, ten, (tuple(range(9)), tuple(range(9)))), False)

    def test_what_was_handed_in_stays(self):
        self.assert_unchanged(cover_holds, LESS, ONE, OTHER, [[0, 1], []])
        self.assert_unchanged(cover_holds, LESS, ONE, OTHER, ([0, 1], [[0]]))

    def test_what_was_told_is_the_askers_own(self):
        self.assert_told_anew(pairs, LESS, ONE, OTHER)
        self.assert_told_anew(matched, LESS, ONE, OTHER)
        self.assert_told_anew(matched, LESS, (), ())

    def test_the_same_question_has_the_same_answer(self):
        self.assert_same_again([
            lambda: pairs(LESS, ONE, OTHER), lambda: matched(LESS, ONE, OTHER), lambda: cover_of(LESS, ONE, OTHER),
            lambda: matched(ANY, ONE, OTHER), lambda: cover_holds(LESS, ONE, OTHER, ((0, 1), ())),
            lambda: is_box(ONE), lambda: cover_of(ANY, OTHER, ONE)])


if __name__ == "__main__":
    unittest.main()
