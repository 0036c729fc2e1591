import random
import unittest

from asking import Asking
from cases import TIMES
from gaugewright.classes import class_of, classes, sure
from samples import GREATEST

LESS = (((0, 1), (1, -1)), 0, 3)  # the one's piece is as great as the other's, or greater by three at most
ANY = (((0, 1), (1, 1)), -GREATEST, GREATEST)
SIX = (-5, -2, 0, 1, 4, 9)


def limits_and_boxes(seed, many):
    source = random.Random(seed)
    for step in range(many):
        limits = tuple(sorted(source.sample(range(-6, 7), source.randint(0, 6))))
        yield limits, tuple(source.randint(-7, 7) for piece in range(source.randint(0, 10)))


def sure_by_hand(gap, limits, one, other_limits, other):
    ((first, s), (second, t)), low, high = gap
    found = []
    for k in range(len(limits) + 1):
        for l in range(len(other_limits) + 1):
            mine = [number for number in one if sum(limit < number for limit in limits) == k]
            its = [number for number in other if sum(limit < number for limit in other_limits) == l]
            if mine and its and all(low <= s * a + t * b <= high for a in mine for b in its):
                found.append((k, l))
    return found


class ClassOf(Asking):
    def test_without_limits_all_are_in_the_first_class(self):
        for number in (-GREATEST, -1, 0, 1, GREATEST):
            self.assertEqual(class_of((), number), 0)

    def test_a_piece_just_at_a_limit_is_in_the_class_below(self):
        self.assertEqual([class_of((3, 5), number) for number in range(1, 8)], [0, 0, 0, 1, 1, 2, 2])
        for place, limit in enumerate(SIX):
            self.assertEqual(class_of(SIX, limit), place)
            self.assertEqual(class_of(SIX, limit + 1), place + 1)

    def test_six_limits(self):
        told = [class_of(SIX, number) for number in range(-6, 11)]
        self.assertEqual(told, [0, 0, 1, 1, 1, 2, 2, 3, 4, 4, 4, 5, 5, 5, 5, 5, 6])

    def test_long_numbers(self):
        limits = (-GREATEST, GREATEST - 1, GREATEST)
        for number, told in [(-GREATEST, 0), (1 - GREATEST, 1), (GREATEST - 1, 1), (GREATEST, 2)]:
            self.assertEqual(class_of(limits, number), told)


class Classes(Asking):
    def test_by_hand(self):
        self.assertEqual(classes((3, 5), (4, 9, 3, 5, 6, -1)), [(2, 5), (0, 3), (1, 4)])
        self.assertEqual(classes((3, 5), (9, 9)), [(), (), (0, 1)])

    def test_without_limits_and_without_pieces(self):
        self.assertEqual(classes((), ()), [()])
        self.assertEqual(classes((), (5, 4, 5)), [(0, 1, 2)])
        self.assertEqual(classes((1, 2), ()), [(), (), ()])
        self.assertEqual(classes(SIX, ()), [()] * 7)

    def test_ten_pieces_with_like_numbers(self):
        self.assertEqual(classes(SIX, (1,) * 10), [(), (), (), tuple(range(10)), (), (), ()])
        self.assertEqual(classes((0,), (1, 0) * 5), [(1, 3, 5, 7, 9), (0, 2, 4, 6, 8)])

    def test_each_piece_is_in_its_class_alone(self):
        for limits, box in limits_and_boxes(71, 200):
            told = classes(limits, box)
            self.assertEqual(len(told), len(limits) + 1)
            self.assertEqual(sorted(piece for pieces in told for piece in pieces), list(range(len(box))))
            for number, pieces in enumerate(told):
                self.assertIs(type(pieces), tuple)
                self.assertEqual(list(pieces), sorted(pieces))
                for piece in pieces:
                    self.assertEqual(class_of(limits, box[piece]), number)
                    self.assertEqual(sum(limit < box[piece] for limit in limits), number)


class Sure(Asking):
    def test_by_hand(self):
        one, other = (4, 9, 3, 6), (3, 1, 6, 7)
        self.assertEqual(classes((4,), one), [(0, 2), (1, 3)])
        self.assertEqual(classes((5,), other), [(0, 1), (2, 3)])
        self.assertEqual(sure(LESS, (4,), one, (5,), other), [(0, 0)])
        self.assertEqual(sure(LESS, (4, 6), one, (5,), other), [(0, 0), (2, 1)])
        self.assertEqual(sure(LESS, (), one, (), other), [])

    def test_classes_without_pieces_are_left_out(self):
        self.assertEqual(sure(ANY, (1, 5), (7, 0), (2,), (9,)), [(0, 1), (2, 1)])
        self.assertEqual(sure(ANY, (1, 5), (), (2,), (9,)), [])
        self.assertEqual(sure(ANY, (1, 5), (7, 0), (2,), ()), [])
        self.assertEqual(sure(ANY, (), (), (), ()), [])

    def test_the_times_are_each_box_its_own(self):
        gap = (((0, 2), (1, -3)), 1, 1)
        self.assertEqual(sure(gap, (), (5,), (), (3,)), [(0, 0)])
        self.assertEqual(sure(gap, (), (3,), (), (5,)), [])

    def test_a_piece_just_at_a_limit(self):
        # With its class one piece alone is too many.
        self.assertEqual(sure(LESS, (4,), (4, 5), (), (4,)), [(0, 0), (1, 0)])
        self.assertEqual(sure(LESS, (5,), (4, 8), (), (5,)), [(1, 0)])
        self.assertEqual(sure(LESS, (8,), (4, 8), (), (5,)), [])

    def test_against_all_pieces(self):
        source = random.Random(72)
        told = 0
        for (limits, one), (other_limits, other) in zip(limits_and_boxes(73, 300), limits_and_boxes(74, 300)):
            low = source.randint(-9, 9)
            gap = (((0, source.choice(TIMES)), (1, source.choice(TIMES))), low, low + source.randint(0, 15))
            found = sure_by_hand(gap, limits, one, other_limits, other)
            self.assertEqual(sure(gap, limits, one, other_limits, other), found)
            told += len(found)
        self.assertGreater(told, 100)

    def test_what_was_told_is_the_askers_own(self):
        self.assert_told_anew(classes, (3,), (4, 9))
        self.assert_told_anew(classes, (), ())
        self.assert_told_anew(sure, ANY, (3,), (4, 9), (), (1,))
        self.assert_told_anew(sure, ANY, (), (), (), ())

    def test_the_same_question_has_the_same_answer(self):
        self.assert_same_again([
            lambda: class_of(SIX, 4), lambda: classes(SIX, (4, 9)), lambda: sure(ANY, SIX, (4, 9), (), (1,)),
            lambda: sure(LESS, SIX, (4, 9), (), (1,)), lambda: classes((), (4, 9))])


if __name__ == "__main__":
    unittest.main()
