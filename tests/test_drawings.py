import itertools
import unittest

from asking import Asking, refusal_of
from gaugewright.drawings import (
    all_sets, drawing_of, first_set, how_many, is_set, last_set, narrowed, nearest,
)
from gaugewright.errors import NoDrawing, NoPart, NoSet, NoSpan, TooGreat
from samples import GREATEST, LONG_END, TOO_LONG, deep_list, deep_tuple, no_whole_numbers, whatever

BUSH = (("pin", 3, 5), ("bore", -2, 1))
ONE = (("a", 7, 7),)
LONG = (("low", -GREATEST, -GREATEST + 1), ("wide", -GREATEST, GREATEST), ("high", GREATEST, GREATEST))
EIGHT = tuple((name, 0, 1) for name in "abcdefgh")
DRAWINGS = (BUSH, ONE, LONG, EIGHT)


class Refusing(Asking):
    def assert_no_drawing(self, number, things):
        self.assert_refused(NoDrawing, {"number": number}, drawing_of, things)


class DrawingOf(Refusing):
    def test_drawings(self):
        self.assertEqual(drawing_of([("pin", 3, 5), ("bore", -2, 1)]), BUSH)
        self.assertEqual(drawing_of([("bore", -2, 1), ("pin", 3, 5)]), (BUSH[1], BUSH[0]))
        for drawing in DRAWINGS:
            told = drawing_of(list(drawing))
            self.assertEqual(told, drawing)
            self.assertIs(type(told), tuple)

    def test_none_and_more_than_eight(self):
        self.assert_no_drawing(0, [])
        self.assert_no_drawing(9, list(EIGHT) + [("i", 0, 0)])
        self.assert_no_drawing(20, [("abcdefghijklmnopqrst"[k], k, k) for k in range(20)])

    def test_a_wrong_thing_goes_ahead_of_too_many(self):
        nine = list(EIGHT) + [("i", 0, 0)]
        self.assert_no_drawing(9, nine + [None])
        self.assert_no_drawing(8, list(EIGHT) + [None, ("i", 0, 0)])
        self.assert_no_drawing(8, list(EIGHT) + [("c", 0, 0), ("i", 0, 0)])
        self.assert_no_drawing(2, nine[:2] + [()] + nine[2:])

    def test_the_first_wrong_thing_is_told(self):
        self.assert_no_drawing(0, [None, None])
        self.assert_no_drawing(1, [("a", 1, 2), ("b", 2, 1), ("a", 1, 2)])
        self.assert_no_drawing(1, [("a", 1, 2), ("a", 1, 2), None])
        self.assert_no_drawing(2, [("a", 1, 2), ("b", 1, 2), ("a", 3, 4), ("b", 1, 2)])

    def test_a_name_again(self):
        self.assert_no_drawing(1, [("a", 1, 2), ("a", 3, 4)])
        self.assert_no_drawing(2, [("a", 1, 2), ("b", 1, 2), ("b", 1, 2)])
        self.assertEqual(len(drawing_of([("a", 1, 2), ("aa", 1, 2)])), 2)

    def test_names(self):
        for name in ["a", "z", "az", "abcdefgh", "zzzzzzzz"]:
            self.assertEqual(drawing_of([(name, 0, 0)]), ((name, 0, 0),))
        for name in ["", "abcdefghi", "A", "aB", "a1", "a b", "a_b", " a", "a ", "a\n", "\u00e9", "a\u0301", "\u00df",
                     "`", "{", "\u0430", "\u212a", "\u00aa", None, True, 1, ["a"], ("a",), {"a": 1}]:
            with self.subTest(name=name):
                self.assert_no_drawing(0, [(name, 0, 0)])

    def test_numbers_of_sixty_figures(self):
        for low, high in [(-GREATEST, GREATEST), (GREATEST, GREATEST), (-GREATEST, -GREATEST)]:
            self.assertEqual(drawing_of([("a", low, high)]), (("a", low, high),))

    def test_numbers_of_sixty_one_figures(self):
        for low, high in [(0, TOO_LONG), (-TOO_LONG, 0), (-TOO_LONG, TOO_LONG), (TOO_LONG, TOO_LONG),
                          (-TOO_LONG, -TOO_LONG), (-LONG_END, LONG_END)]:
            self.assert_no_drawing(1, [("b", 0, 0), ("a", low, high)])

    def test_low_above_high(self):
        for low, high in [(1, 0), (0, -1), (GREATEST, GREATEST - 1), (GREATEST, -GREATEST)]:
            self.assert_no_drawing(0, [("a", low, high)])
        self.assertEqual(drawing_of([("a", 1, 1)]), (("a", 1, 1),))

    def test_whatever_as_a_thing(self):
        for thing in whatever() + [["a", 1, 2], ("a", 1), ("a", 1, 2, 3), ("a", (1, 2)), (1, 2, "a"), "abc",
                                   {"a": 1, "b": 2, "c": 3}, (("a", 1, 2),)]:
            self.assert_no_drawing(0, [thing])
            self.assert_no_drawing(1, [("a", 1, 2), thing])

    def test_whatever_as_an_end(self):
        for thing in no_whole_numbers() + [deep_tuple(1, 198), deep_list(1, 198)]:
            self.assert_no_drawing(0, [("a", thing, 1)])
            self.assert_no_drawing(0, [("a", 0, thing)])
            self.assert_no_drawing(0, [(thing, 0, 1)] if not isinstance(thing, str) else [("a", thing, thing)])

    def test_truths_are_no_numbers(self):
        for low, high in [(False, True), (False, 1), (0, True), (True, True)]:
            self.assert_no_drawing(0, [("a", low, high)])

    def test_what_was_handed_in_stays(self):
        things = [("a", 1, 2), ("b", 3, 4)]
        drawing_of(things)
        self.assertEqual(things, [("a", 1, 2), ("b", 3, 4)])
        wrong = [("a", 1, 2), ["b", [3], {"c": 4}]]
        self.assert_no_drawing(1, wrong)
        self.assertEqual(wrong, [("a", 1, 2), ["b", [3], {"c": 4}]])

    def test_what_is_done_later_changes_nothing(self):
        things = [("a", 1, 2), ("b", 3, 4)]
        told = drawing_of(things)
        things[0] = None
        things.append(None)
        self.assertEqual(told, (("a", 1, 2), ("b", 3, 4)))
        self.assert_no_drawing(0, things)
        self.assertEqual(drawing_of([("a", 1, 2), ("b", 3, 4)]), told)


class IsSet(unittest.TestCase):
    def test_just_the_sets(self):
        sets = set(itertools.product(range(3, 6), range(-2, 2)))
        for thing in itertools.product(range(-3, 8), repeat=2):
            self.assertIs(is_set(BUSH, thing), thing in sets)

    def test_another_number_of_things(self):
        for thing in [(), (3,), (3, 0, 0), ((3, 0),), (3, 0, 3, 0)]:
            self.assertIs(is_set(BUSH, thing), False)
        self.assertIs(is_set(ONE, (7,)), True)
        self.assertIs(is_set(ONE, (7, 7)), False)
        self.assertIs(is_set(ONE, ()), False)

    def test_not_a_tuple(self):
        for thing in [[3, 0], {3: 0}, {0: 3, 1: 0}, "30", 30]:
            self.assertIs(is_set(BUSH, thing), False)

    def test_truths_are_no_numbers(self):
        drawing = (("a", 0, 1), ("b", 0, 1))
        for thing in [(True, 0), (0, False), (False, True), (True, True)]:
            self.assertIs(is_set(drawing, thing), False)
        self.assertIs(is_set(drawing, (1, 0)), True)

    def test_whatever(self):
        for thing in whatever():
            self.assertIs(is_set(BUSH, thing), False)
        for thing in no_whole_numbers() + [deep_tuple(1, 199), deep_list(1, 199)]:
            self.assertIs(is_set(ONE, (thing,)), False)
            self.assertIs(is_set(BUSH, (3, thing)), False)
            self.assertIs(is_set(BUSH, (thing, 0)), False)

    def test_long_numbers(self):
        self.assertIs(is_set(LONG, (-GREATEST, 0, GREATEST)), True)
        self.assertIs(is_set(LONG, (1 - GREATEST, GREATEST, GREATEST)), True)
        self.assertIs(is_set(LONG, (-GREATEST, TOO_LONG, GREATEST)), False)
        self.assertIs(is_set(LONG, (-TOO_LONG, 0, GREATEST)), False)
        self.assertIs(is_set(LONG, (-GREATEST, 0, 10 ** 5000)), False)

    def test_what_was_handed_in_stays(self):
        thing = [[3], {"a": [0]}]
        is_set(BUSH, thing)
        is_set(BUSH, tuple(thing))
        self.assertEqual(thing, [[3], {"a": [0]}])


class FirstAndLast(unittest.TestCase):
    def test_first_set(self):
        self.assertEqual(first_set(BUSH), (3, -2))
        self.assertEqual(first_set(ONE), (7,))
        self.assertEqual(first_set(LONG), (-GREATEST, -GREATEST, GREATEST))
        self.assertEqual(first_set(EIGHT), (0,) * 8)

    def test_last_set(self):
        self.assertEqual(last_set(BUSH), (5, 1))
        self.assertEqual(last_set(ONE), (7,))
        self.assertEqual(last_set(LONG), (1 - GREATEST, GREATEST, GREATEST))
        self.assertEqual(last_set(EIGHT), (1,) * 8)

    def test_they_are_sets(self):
        for drawing in DRAWINGS:
            self.assertIs(is_set(drawing, first_set(drawing)), True)
            self.assertIs(is_set(drawing, last_set(drawing)), True)


class Nearest(Refusing):
    def test_numbers_of_the_spans_stay(self):
        for one in itertools.product(range(3, 6), range(-2, 2)):
            self.assertEqual(nearest(BUSH, one), one)

    def test_part_by_part_as_near_as_can_be(self):
        for numbers in itertools.product(range(-5, 9), repeat=2):
            pin = min(range(3, 6), key=lambda number: abs(number - numbers[0]))
            bore = min(range(-2, 2), key=lambda number: abs(number - numbers[1]))
            self.assertEqual(nearest(BUSH, numbers), (pin, bore))
            self.assertEqual(nearest(BUSH, list(numbers)), (pin, bore))

    def test_a_set_is_told_of_a_list_too(self):
        told = nearest(BUSH, [100, -100])
        self.assertEqual(told, (5, -2))
        self.assertIs(is_set(BUSH, told), True)

    def test_long_numbers(self):
        self.assertEqual(nearest(LONG, (-LONG_END, TOO_LONG, 0)), (-GREATEST, GREATEST, GREATEST))
        self.assertEqual(nearest(LONG, [LONG_END, -LONG_END, LONG_END]), (1 - GREATEST, -GREATEST, GREATEST))
        self.assertEqual(nearest(BUSH, (10 ** 5000, -10 ** 5000)), (5, -2))

    def test_not_as_many(self):
        for numbers in [(), [], (3,), [3], (3, 0, 0), [3, 0, 0, 0]]:
            self.assert_refused(NoSet, {}, nearest, BUSH, numbers)
        self.assert_refused(NoSet, {}, nearest, ONE, [])
        self.assert_refused(NoSet, {}, nearest, EIGHT, (0,) * 9)

    def test_what_was_handed_in_stays(self):
        numbers = [100, 0]
        told = nearest(BUSH, numbers)
        self.assertEqual(numbers, [100, 0])
        numbers[0] = -100
        self.assertEqual(told, (5, 0))
        self.assertEqual(nearest(BUSH, [100, 0]), (5, 0))


class Narrowed(Refusing):
    def test_another_span(self):
        self.assertEqual(narrowed(BUSH, 0, (4, 4)), (("pin", 4, 4), ("bore", -2, 1)))
        self.assertEqual(narrowed(BUSH, 1, (-2, 0)), (("pin", 3, 5), ("bore", -2, 0)))
        self.assertEqual(narrowed(BUSH, 1, (-2, 1)), BUSH)
        self.assertEqual(narrowed(EIGHT, 7, (1, 1)), EIGHT[:7] + (("h", 1, 1),))
        self.assertEqual(narrowed(EIGHT, 3, (0, 0)), EIGHT[:3] + (("d", 0, 0),) + EIGHT[4:])
        self.assertEqual(narrowed(LONG, 1, (0, GREATEST)), (LONG[0], ("wide", 0, GREATEST), LONG[2]))

    def test_the_drawing_stays(self):
        drawing = (("pin", 3, 5), ("bore", -2, 1))
        narrowed(drawing, 0, (4, 4))
        self.assertEqual(drawing, BUSH)

    def test_no_part(self):
        for part in [-1, -2, -3, 2, 3, 10 ** 80, -10 ** 80]:
            self.assert_refused(NoPart, {}, narrowed, BUSH, part, (0, 0))
        self.assert_refused(NoPart, {}, narrowed, ONE, 1, (7, 7))
        self.assert_refused(NoPart, {}, narrowed, ONE, -1, (7, 7))

    def test_no_part_goes_ahead_of_no_span(self):
        for thing in [None, (5, 3), (100, 200), [3, 4]]:
            for part in [-1, 2]:
                self.assert_refused(NoPart, {}, narrowed, BUSH, part, thing)

    def test_no_span(self):
        for thing in whatever() + [[3, 4], (4, 3), (3,), (3, 4, 5), (True, 4), (3, "4"), "34", {3: 4}]:
            self.assert_refused(NoSpan, {}, narrowed, BUSH, 0, thing)
        for thing in no_whole_numbers():
            self.assert_refused(NoSpan, {}, narrowed, BUSH, 0, (thing, 4))
            self.assert_refused(NoSpan, {}, narrowed, BUSH, 0, (3, thing))
        self.assert_refused(NoSpan, {}, narrowed, EIGHT, 0, (False, True))

    def test_not_inside(self):
        for span in itertools.combinations_with_replacement(range(0, 9), 2):
            if 3 <= span[0] and span[1] <= 5:
                self.assertEqual(narrowed(BUSH, 0, span)[0], ("pin",) + span)
            else:
                self.assert_refused(NoSpan, {}, narrowed, BUSH, 0, span)
        self.assert_refused(NoSpan, {}, narrowed, LONG, 1, (-TOO_LONG, 0))
        self.assert_refused(NoSpan, {}, narrowed, LONG, 1, (0, LONG_END))

    def test_what_was_handed_in_stays(self):
        thing = [3, [4]]
        self.assert_refused(NoSpan, {}, narrowed, BUSH, 0, thing)
        self.assertEqual(thing, [3, [4]])


class Sets(Refusing):
    def test_how_many(self):
        self.assertEqual(how_many(BUSH), 12)
        self.assertEqual(how_many(ONE), 1)
        self.assertEqual(how_many(EIGHT), 256)
        self.assertEqual(how_many(LONG), 2 * (2 * GREATEST + 1))
        widest = tuple((name, -GREATEST, GREATEST) for name in "abcdefgh")
        self.assertEqual(how_many(widest), (2 * GREATEST + 1) ** 8)

    def test_all_sets_in_their_order(self):
        self.assertEqual(all_sets(BUSH), [
            (3, -2), (3, -1), (3, 0), (3, 1), (4, -2), (4, -1), (4, 0), (4, 1), (5, -2), (5, -1), (5, 0), (5, 1)])
        self.assertEqual(all_sets(ONE), [(7,)])
        self.assertEqual(all_sets(EIGHT), list(itertools.product((0, 1), repeat=8)))
        for drawing in (BUSH, ONE, EIGHT):
            told = all_sets(drawing)
            self.assertIs(type(told), list)
            self.assertEqual(told, sorted(set(told)))
            self.assertEqual(len(told), how_many(drawing))
            self.assertEqual((told[0], told[-1]), (first_set(drawing), last_set(drawing)))
            self.assertTrue(all(is_set(drawing, one) for one in told))

    def test_long_numbers(self):
        drawing = (("a", GREATEST - 1, GREATEST), ("b", -GREATEST, 1 - GREATEST))
        self.assertEqual(all_sets(drawing), [
            (GREATEST - 1, -GREATEST), (GREATEST - 1, 1 - GREATEST), (GREATEST, -GREATEST), (GREATEST, 1 - GREATEST)])

    def test_three_hundred_and_more(self):
        self.assertEqual(all_sets((("a", 1, 300),)), [(number,) for number in range(1, 301)])
        self.assertEqual(len(all_sets((("a", 1, 15), ("b", 1, 20)))), 300)
        self.assert_refused(TooGreat, {"many": 301, "most": 300}, all_sets, (("a", 0, 300),))
        self.assert_refused(TooGreat, {"many": 304, "most": 300}, all_sets, (("a", 1, 16), ("b", 1, 19)))
        self.assert_refused(TooGreat, {"many": how_many(LONG), "most": 300}, all_sets, LONG)

    def test_what_was_told_is_the_askers_own(self):
        self.assert_told_anew(all_sets, BUSH)
        self.assertIsNot(all_sets(BUSH), all_sets(BUSH))

    def test_the_same_question_has_the_same_answer(self):
        self.assert_same_again([
            lambda: drawing_of(list(BUSH)), lambda: all_sets(BUSH), lambda: how_many(BUSH), lambda: first_set(BUSH),
            lambda: last_set(BUSH), lambda: nearest(BUSH, (0, 0)), lambda: narrowed(BUSH, 1, (0, 0)),
            lambda: is_set(BUSH, (3, 0)), lambda: vars(refusal_of(self, all_sets, LONG)),
            lambda: vars(refusal_of(self, drawing_of, [BUSH[0], None])),
        ])


if __name__ == "__main__":
    unittest.main()
