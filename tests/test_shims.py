import itertools
import random
import unittest

from asking import Asking, refusal_of
from gaugewright.errors import TooGreat
from gaugewright.shims import stack_of, table_holds, table_of
from samples import GREATEST, deep_list, deep_tuple, no_whole_numbers, whatever

SHIMS = (2, 5)
SPAN = (9, 9)  # from 0 on by 5, 2 and 2
TABLE = [(0,), (2, 5), (4, 7)]


def stacks(shims, many):
    return itertools.combinations_with_replacement(range(len(shims)), many)


def thickness(shims, stack):
    return sum(shims[place] for place in stack)


def stack_by_all_stacks(shims, number, span):
    for many in range(max(0, span[1] - number) + 1):
        found = [stack for stack in stacks(shims, many) if span[0] <= number + thickness(shims, stack) <= span[1]]
        if found:
            return min(found)
    return None


def row_by_all_sums(shims, number, span, many):
    sums = {thickness(shims, stack) for stack in stacks(shims, many)}
    return tuple(sorted(each for each in sums if number + each <= span[1]))


def is_table(shims, number, span, many, rows):
    """The words of the document once more, for rows of a form that is in order."""
    if len(rows) != many:
        return False
    if any(span[0] <= number + each <= span[1] for row in rows for each in row):
        return False
    return rows == [row_by_all_sums(shims, number, span, place) for place in range(many)]


def questions(seed, many):
    source = random.Random(seed)
    for step in range(many):
        shims = tuple(sorted(source.sample(range(1, 9), source.randint(1, 5))))
        number = source.randint(-5, 5)
        low = number + source.randint(-4, 12)
        yield shims, number, (low, low + source.choice((0, 0, 0, 1, 3)))


def unreachable(seed, many):
    """Thicknesses that are not so close together, so that often no stack does."""
    source = random.Random(seed)
    for step in range(many):
        shims = tuple(sorted(source.sample((3, 4, 6, 8, 9, 10, 12), source.randint(1, 4))))
        low = source.randint(-3, 19)
        yield shims, 0, (low, low + source.choice((0, 0, 1)))


class StackOf(Asking):
    def test_by_hand(self):
        self.assertEqual(stack_of(SHIMS, 0, SPAN), (0, 0, 1))
        self.assertEqual(stack_of(SHIMS, 0, (9, 10)), (1, 1))
        self.assertEqual(stack_of(SHIMS, -6, (3, 3)), (0, 0, 1))
        self.assertEqual(stack_of((3,), 1, (10, 12)), (0, 0, 0))
        self.assertEqual(stack_of((1, 99), 0, (99, 99)), (1,))

    def test_of_as_many_the_least_tuple(self):
        self.assertEqual(stack_of((1, 2, 3), 0, (4, 4)), (0, 2))  # 1 and 3, or 2 twice
        self.assertEqual(stack_of((1, 2, 3, 4, 5), 0, (8, 10)), (2, 4))  # 3 and 5, 4 and 4, 4 and 5, 5 and 5
        self.assertEqual(stack_of((2, 5), 0, (4, 7)), (1,))
        self.assertEqual(stack_of((2, 3), 0, (5, 6)), (0, 1))

    def test_few_shims_go_ahead_of_a_least_tuple(self):
        self.assertEqual(stack_of((1, 5), 0, (5, 5)), (1,))
        self.assertEqual(stack_of((1, 5, 6), 0, (10, 10)), (1, 1))

    def test_no_shim_where_the_worth_is_of_the_span(self):
        for span in [(3, 3), (0, 3), (3, 9), (-GREATEST, 3), (-GREATEST, 203)]:
            self.assertEqual(stack_of(SHIMS, 3, span), ())
            self.assertEqual(table_of(SHIMS, 3, span), [])

    def test_none(self):
        self.assertIsNone(stack_of(SHIMS, 0, (1, 1)))
        self.assertIsNone(stack_of(SHIMS, 0, (3, 3)))
        self.assertIsNone(stack_of((2, 4, 6), 0, (199, 199)))
        self.assertIsNone(stack_of((99,), 0, (100, 197)))
        # Where the worth is beyond the span nothing can be taken off.
        self.assertIsNone(stack_of(SHIMS, 10, (4, 9)))
        self.assertIsNone(stack_of(SHIMS, GREATEST, (-GREATEST, -GREATEST)))

    def test_against_all_stacks(self):
        for shims, number, span in list(questions(111, 300)) + list(unreachable(112, 120)):
            told = stack_of(shims, number, span)
            self.assertEqual(told, stack_by_all_stacks(shims, number, span), (shims, number, span))
            self.assertTrue(told is None or type(told) is tuple)

    def test_a_stack_of_two_hundred(self):
        self.assertEqual(self.at_once(stack_of, (1,), 5, (205, 205)), (0,) * 200)
        self.assertEqual(len(self.at_once(table_of, (1,), 5, (205, 205))), 200)
        self.assertEqual(self.at_once(stack_of, (1, 2, 3, 4, 5), 0, (200, 200)), (4,) * 40)
        self.assertEqual(self.at_once(stack_of, (1, 2, 3, 4, 5), 0, (199, 199)), (3,) + (4,) * 39)
        self.assertEqual(self.at_once(stack_of, (1, 3, 4, 98, 99), 0, (200, 200)), (1, 3, 4))

    def test_long_numbers(self):
        self.assertEqual(stack_of(SHIMS, GREATEST - 9, (GREATEST, GREATEST)), (0, 0, 1))
        self.assertEqual(stack_of(SHIMS, -GREATEST, (9 - GREATEST, 9 - GREATEST)), (0, 0, 1))
        self.assertEqual(table_of(SHIMS, GREATEST - 9, (GREATEST, GREATEST)), TABLE)


class TableOf(Asking):
    def test_by_hand(self):
        self.assertEqual(table_of(SHIMS, 0, SPAN), TABLE)
        self.assertEqual(table_of(SHIMS, 0, (3, 3)), [(0,), (2,), ()])
        self.assertEqual(table_of(SHIMS, 0, (1, 1)), [(0,), ()])
        self.assertEqual(table_of((3,), 0, (10, 11)), [(0,), (3,), (6,), (9,), ()])

    def test_the_worth_beyond_the_span(self):
        self.assertEqual(table_of(SHIMS, 10, (4, 9)), [()])
        self.assertEqual(table_of(SHIMS, GREATEST, (-GREATEST, -GREATEST)), [()])

    def test_as_many_rows_as_the_stack_has_shims(self):
        seen = {True: 0, False: 0}
        for shims, number, span in list(questions(113, 200)) + list(unreachable(114, 120)):
            told = table_of(shims, number, span)
            self.assertIs(type(told), list)
            stack = stack_by_all_stacks(shims, number, span)
            if stack is None:
                self.assertEqual([place for place, row in enumerate(told) if row == ()], [len(told) - 1])
            else:
                self.assertEqual(len(told), len(stack))
            self.assertIs(is_table(shims, number, span, len(told), told), True)
            self.assertIs(table_holds(shims, number, span, len(told), told), True)
            seen[stack is None] += 1
        self.assertGreater(min(seen.values()), 40, seen)

    def test_what_was_told_is_the_askers_own(self):
        self.assert_told_anew(table_of, SHIMS, 0, SPAN)
        self.assert_told_anew(table_of, SHIMS, 0, (0, 3))
        self.assert_told_anew(table_of, SHIMS, 9, (0, 3))


class TableHolds(Asking):
    def assert_no_table(self, thing, many=3):
        self.assertIs(table_holds(SHIMS, 0, SPAN, many, thing), False, thing)

    def test_by_hand(self):
        for many in range(4):
            self.assertIs(table_holds(SHIMS, 0, SPAN, many, TABLE[:many]), True)
        # The next row has the sum that does, so there is no table of more rows.
        self.assert_no_table(TABLE + [(6, 9)], 4)
        self.assert_no_table(TABLE + [(6,)], 4)
        self.assert_no_table(TABLE + [()], 4)

    def test_of_another_many(self):
        for many in range(6):
            for rows in range(6):
                self.assertIs(table_holds(SHIMS, 0, SPAN, many, (TABLE + [(6, 9), (8,)])[:rows]), many == rows <= 3)

    def test_further_rows_behind_the_first_without_sums(self):
        rows = [(0,), (2,), ()]
        self.assertIs(table_holds(SHIMS, 0, (3, 3), 3, rows), True)
        self.assertIs(table_holds(SHIMS, 0, (3, 3), 5, rows + [(), ()]), True)
        self.assertIs(table_holds(SHIMS, 0, (3, 3), 300, self.longer(rows, 300)), True)
        self.assertIs(table_holds(SHIMS, 0, (3, 3), 300, self.longer(rows, 299)), False)
        self.assertIs(table_holds(SHIMS, 0, (3, 3), 300, self.longer(rows, 299) + [(0,)]), False)
        self.assertIs(table_holds(SHIMS, 10, (4, 9), 300, [()] * 300), True)
        self.assertIs(table_holds(SHIMS, 10, (4, 9), 2, [(0,), ()]), False)
        self.assertIs(table_holds(SHIMS, 10, (4, 9), 0, []), True)

    def longer(self, rows, many):
        return rows + [()] * (many - len(rows))

    def test_the_worth_is_of_the_span(self):
        self.assertIs(table_holds(SHIMS, 3, (3, 9), 0, []), True)
        for rows in [[(0,)], [()], [(0,), (2, 5)]]:
            self.assertIs(table_holds(SHIMS, 3, (3, 9), len(rows), rows), False)

    def test_just_at_the_high_end_a_sum_is_of_the_row(self):
        # By 2 just to the end, which the span has; by 3 beyond it.
        self.assertIs(table_holds((2, 3), 0, (2, 2), 2, [(0,), (2,)]), False)
        self.assertIs(table_holds((2, 3), 0, (1, 1), 2, [(0,), ()]), True)
        self.assertIs(table_holds((2, 3), 0, (5, 5), 2, [(0,), (2, 3)]), True)

    def test_one_thing_otherwise(self):
        for place, row in [
            (0, ()), (0, (1,)), (0, (0, 0)), (0, [0]), (0, 0), (0, None), (0, (0, 2)), (1, (2,)), (1, (5,)), (1, ()),
            (1, (5, 2)), (1, (2, 2, 5)), (1, (2, 5, 5)), (1, (2, 5, 7)), (1, (2, 6)), (1, [2, 5]), (1, (2, "5")),
            (1, (2, 5, None)), (1, ((2, 5),)), (1, {2: 5}), (2, (4, 7, 10)), (2, (4,)), (2, (4, 7, 9)), (2, (4, (7,))),
        ]:
            wrong = list(TABLE)
            wrong[place] = row
            self.assert_no_table(wrong)
        self.assert_no_table(tuple(TABLE))
        self.assert_no_table(dict(enumerate(TABLE)))
        self.assert_no_table([TABLE[0], TABLE[2], TABLE[1]])
        self.assert_no_table([[(0,)], TABLE], 2)

    def test_truths_are_no_numbers(self):
        self.assertIs(table_holds((1, 3), 0, (4, 4), 2, [(0,), (1, 3)]), True)
        self.assertIs(table_holds((1, 3), 0, (4, 4), 2, [(False,), (1, 3)]), False)
        self.assertIs(table_holds((1, 3), 0, (4, 4), 2, [(0,), (True, 3)]), False)

    def test_whatever(self):
        for thing in whatever():
            for many in (1, 2, 3, 300):
                self.assert_no_table(thing, many)
            self.assertIs(table_holds(SHIMS, 0, SPAN, 0, thing), isinstance(thing, list) and not thing)
            self.assert_no_table([thing], 1)
            self.assert_no_table(TABLE[:2] + [thing])
            self.assert_no_table(TABLE + [thing], 4)
            self.assert_no_table(TABLE[:2] + [(4, thing)] if thing != 7 else TABLE[:2] + [(4, 8)])
        for thing in no_whole_numbers() + [deep_tuple(1, 198), deep_list(1, 198)]:
            self.assert_no_table([(thing,)], 1)
            self.assert_no_table(TABLE[:2] + [(4, 7, thing)])

    def test_against_the_words_once_more(self):
        source = random.Random(115)
        seen = {True: 0, False: 0}
        for shims, number, span in list(questions(116, 300)) + list(unreachable(117, 100)):
            many = source.randint(0, 4)
            rows = [row_by_all_sums(shims, number, span, place) for place in range(many)]
            if rows and source.random() < 0.2:
                place = source.randrange(len(rows))
                rows[place] = tuple(sorted(set(rows[place]) ^ {source.randint(0, 9)}))
            told = table_holds(shims, number, span, many, rows)
            self.assertIs(told, is_table(shims, number, span, many, rows))
            seen[told] += 1
            if told:
                stack = stack_of(shims, number, span)
                self.assertTrue(stack is None or len(stack) >= many)
        self.assertGreater(min(seen.values()), 80, seen)

    def test_what_was_handed_in_stays(self):
        self.assert_unchanged(table_holds, SHIMS, 0, SPAN, 3, list(TABLE))
        self.assert_unchanged(table_holds, SHIMS, 0, SPAN, 3, [[0], [2, [5]], {"a": [1]}])

    def test_the_same_question_has_the_same_answer(self):
        self.assert_same_again([
            lambda: stack_of(SHIMS, 0, SPAN), lambda: table_of(SHIMS, 0, SPAN), lambda: stack_of(SHIMS, 0, (3, 3)),
            lambda: table_of(SHIMS, 0, (3, 3)), lambda: table_holds(SHIMS, 0, SPAN, 3, TABLE),
            lambda: vars(refusal_of(self, stack_of, SHIMS, 0, (0, 201)))])


class TooFar(Asking):
    def test_two_hundred_and_one_more(self):
        for number in (0, -50, 7, GREATEST - 201, -GREATEST):
            for low in (number, number + 1, number + 150, number - 9):
                span = (low, number + 200)
                self.assertIsNotNone(stack_of((1, 5), number, span))
                self.assertIs(table_holds((1, 5), number, span, 0, []), True)
                wider = (low, number + 201)
                for ask in (stack_of, table_of):
                    self.assert_refused(TooGreat, {"many": 201, "most": 200}, ask, (1, 5), number, wider)
                for thing in [[], None, [()], [(0,)], "a"]:
                    self.assert_refused(
                        TooGreat, {"many": 201, "most": 200}, table_holds, (1, 5), number, wider, 0, thing)

    def test_far_more(self):
        fields = {"many": 2 * GREATEST, "most": 200}
        span = (-GREATEST, GREATEST)
        for ask in (stack_of, table_of):
            self.assert_refused(TooGreat, fields, ask, SHIMS, -GREATEST, span)
        for thing in whatever():
            self.assert_refused(TooGreat, fields, table_holds, SHIMS, -GREATEST, span, 3, thing)


if __name__ == "__main__":
    unittest.main()
