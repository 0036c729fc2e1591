import unittest

from gaugewright.spans import hull, inside, is_span, meet, multiplied, plus, size_of
from samples import GREATEST, LONG_END, TOO_LONG, deep_list, deep_tuple, no_whole_numbers, whatever

SMALL = [(low, high) for low in range(-4, 5) for high in range(low, 5)]
LONG = [(-LONG_END, LONG_END), (LONG_END, LONG_END), (-LONG_END, -LONG_END), (-LONG_END, 0), (0, LONG_END),
        (LONG_END - 1, LONG_END), (-TOO_LONG, TOO_LONG), (-GREATEST, GREATEST)]


def numbers_of(span):
    return set(range(span[0], span[1] + 1))


class IsSpan(unittest.TestCase):
    def test_spans(self):
        for thing in SMALL + LONG + [(0, 0), (-1, -1), (-10 ** 5000, 10 ** 5000)]:
            self.assertIs(is_span(thing), True)

    def test_low_above_high(self):
        for thing in [(1, 0), (0, -1), (-1, -2), (LONG_END, LONG_END - 1), (LONG_END, -LONG_END), (TOO_LONG, GREATEST)]:
            self.assertIs(is_span(thing), False)

    def test_not_two_things(self):
        for thing in [(), (1,), (1, 2, 3), (1, 2, 2, 3), ((1, 2),), ((1, 2), (1, 2))]:
            self.assertIs(is_span(thing), False)

    def test_not_a_tuple(self):
        for thing in [[1, 2], {1: 2}, {0: 1, 1: 2}, "12", "ab", 12, None, True, False]:
            self.assertIs(is_span(thing), False)

    def test_truths_are_no_whole_numbers(self):
        for thing in [(False, True), (False, 1), (0, True), (False, False), (True, True), (True, 7), (-1, False)]:
            self.assertIs(is_span(thing), False)

    def test_whatever_is_handed_in(self):
        for thing in whatever():
            self.assertIs(is_span(thing), False)

    def test_whatever_as_an_end(self):
        for thing in no_whole_numbers() + [deep_tuple(1, 199), deep_list(1, 199)]:
            self.assertIs(is_span((thing, 1)), False)
            self.assertIs(is_span((1, thing)), False)
            self.assertIs(is_span((thing, thing)), False)

    def test_what_was_handed_in_stays(self):
        thing = [[1, 2], {"a": [3]}]
        self.assertIs(is_span(thing), False)
        self.assertIs(is_span((thing, thing)), False)
        self.assertEqual(thing, [[1, 2], {"a": [3]}])


class TwoSpans(unittest.TestCase):
    def test_plus(self):
        self.assertEqual(plus((1, 3), (10, 20)), (11, 23))
        self.assertEqual(plus((-5, 2), (-1, 1)), (-6, 3))
        for one in SMALL:
            for other in SMALL:
                sums = [a + b for a in numbers_of(one) for b in numbers_of(other)]
                self.assertEqual(plus(one, other), (min(sums), max(sums)))

    def test_meet(self):
        self.assertEqual(meet((1, 5), (4, 9)), (4, 5))
        self.assertEqual(meet((1, 5), (5, 9)), (5, 5))
        self.assertIsNone(meet((1, 5), (6, 9)))
        for one in SMALL:
            for other in SMALL:
                both = numbers_of(one) & numbers_of(other)
                told = meet(one, other)
                self.assertEqual(None if told is None else numbers_of(told), both or None)

    def test_hull(self):
        self.assertEqual(hull((1, 2), (8, 9)), (1, 9))
        self.assertEqual(hull((1, 9), (3, 4)), (1, 9))
        for one in SMALL:
            for other in SMALL:
                either = numbers_of(one) | numbers_of(other)
                self.assertEqual(hull(one, other), (min(either), max(either)))

    def test_inside(self):
        self.assertIs(inside((2, 3), (1, 4)), True)
        self.assertIs(inside((1, 4), (2, 3)), False)
        self.assertIs(inside((1, 4), (1, 4)), True)
        for one in SMALL:
            for other in SMALL:
                self.assertIs(inside(one, other), numbers_of(one) <= numbers_of(other))

    def test_long_ends(self):
        whole = (-LONG_END, LONG_END)
        self.assertEqual(plus(whole, whole), (-2 * LONG_END, 2 * LONG_END))
        self.assertEqual(plus(whole, (LONG_END, LONG_END)), (0, 2 * LONG_END))
        self.assertEqual(meet((-LONG_END, 0), (0, LONG_END)), (0, 0))
        self.assertIsNone(meet((-LONG_END, LONG_END - 1), (LONG_END, LONG_END)))
        self.assertEqual(hull((-LONG_END, -LONG_END), (LONG_END, LONG_END)), whole)
        self.assertIs(inside((LONG_END - 1, LONG_END), whole), True)
        self.assertIs(inside(whole, (1 - LONG_END, LONG_END)), False)
        self.assertIs(inside(whole, (-LONG_END, LONG_END - 1)), False)

    def test_what_is_told_is_a_span(self):
        for one in SMALL + LONG:
            for other in SMALL[::7] + LONG:
                for told in (plus(one, other), hull(one, other), meet(one, other)):
                    self.assertIs(told is None or is_span(told), True)


class OneSpan(unittest.TestCase):
    def test_multiplied(self):
        self.assertEqual(multiplied((2, 5), 3), (6, 15))
        self.assertEqual(multiplied((2, 5), -3), (-15, -6))
        self.assertEqual(multiplied((-2, 5), -1), (-5, 2))
        for one in SMALL:
            for by in range(-4, 5):
                taken = [by * number for number in numbers_of(one)]
                self.assertEqual(multiplied(one, by), (min(taken), max(taken)))

    def test_multiplied_by_nought(self):
        for one in SMALL + LONG:
            self.assertEqual(multiplied(one, 0), (0, 0))

    def test_multiplied_long(self):
        self.assertEqual(multiplied((-LONG_END, 1), -1), (-1, LONG_END))
        self.assertEqual(multiplied((1, 2), -GREATEST), (-2 * GREATEST, -GREATEST))
        self.assertEqual(multiplied((-1, LONG_END), LONG_END), (-LONG_END, LONG_END * LONG_END))
        self.assertIs(is_span(multiplied((-LONG_END, LONG_END), -LONG_END)), True)

    def test_what_was_told_may_be_handed_in_again(self):
        one = (-LONG_END, LONG_END)
        for step in range(5):
            one = multiplied(one, -LONG_END)
        self.assertIs(is_span(one), True)
        self.assertEqual(one, (-LONG_END ** 6, LONG_END ** 6))
        self.assertEqual(size_of(one), 2 * LONG_END ** 6 + 1)

    def test_size_of(self):
        self.assertEqual(size_of((3, 3)), 1)
        self.assertEqual(size_of((-2, 2)), 5)
        for one in SMALL:
            self.assertEqual(size_of(one), len(numbers_of(one)))
        self.assertEqual(size_of((-LONG_END, LONG_END)), 2 * LONG_END + 1)
        self.assertEqual(size_of((LONG_END, LONG_END)), 1)

    def test_the_same_question_has_the_same_answer(self):
        asked = [lambda: plus((1, 2), (3, 4)), lambda: meet((1, 2), (3, 4)), lambda: hull((1, 2), (3, 4)),
                 lambda: inside((1, 2), (3, 4)), lambda: multiplied((1, 2), -2), lambda: size_of((1, 2))]
        first = [ask() for ask in asked]
        self.assertEqual([ask() for ask in reversed(asked)], first[::-1])
        self.assertEqual([ask() for ask in asked], first)


if __name__ == "__main__":
    unittest.main()
