import itertools
import random
import unittest

from asking import Asking, refusal_of
from cases import drawing_with, is_kept, random_gaps, sets_of
from gaugewright.errors import TooGreat
from gaugewright.measure import decides, fewest, twins, witness_holds, witness_of
from gaugewright.reach import verdict
from samples import GREATEST, deep_list, deep_tuple, no_whole_numbers, whatever

DRAWING = (("a", 0, 1), ("b", 0, 2), ("c", 5, 6))
GAP = (((0, 2), (1, 1)), 0, 2)  # kept by a at 0 and any b, or by a at 1 and b at 0
WITNESS = [((0,), (1, 0, 5), (1, 1, 5)), ((1,), (0, 1, 5), (1, 1, 5)), ((2,), (0, 0, 5), (1, 1, 5))]
EIGHT = drawing_with([(0, 1)] * 8)
ALL_EIGHT = (tuple((part, 1) for part in range(8)), 4, 8)
WIDE = drawing_with([(-GREATEST, GREATEST), (0, 9), (0, GREATEST)])
WIDE_GAP = (((0, 1), (1, 1)), 0, GREATEST)


def alike(one, other, parts):
    return all(one[part] == other[part] for part in parts)


def twins_by_all_sets(drawing, gap, parts):
    sets = sets_of(drawing)
    for keeping in sets:
        for breaking in sets:
            if is_kept(gap, keeping) and not is_kept(gap, breaking) and alike(keeping, breaking, parts):
                return (keeping, breaking)
    return None


def tuples_of_parts(drawing, many=None):
    sizes = range(len(drawing) + 1) if many is None else [many]
    return [parts for size in sizes for parts in itertools.combinations(range(len(drawing)), size)]


def gaps_of_few_sets(seed, many, most=40):
    for drawing, gap in random_gaps(seed, many):
        if len(sets_of(drawing)) <= most:
            yield drawing, gap


def is_witness(drawing, gap, many, rows):
    """The words of the document once more, for rows of a form that is in order."""
    wanted = tuples_of_parts(drawing, many - 1) if many else []
    if [parts for parts, keeping, breaking in rows] != wanted:
        return False
    sets = sets_of(drawing)
    return all(keeping in sets and breaking in sets and alike(keeping, breaking, parts) and is_kept(gap, keeping)
               and not is_kept(gap, breaking) for parts, keeping, breaking in rows)


class Twins(Asking):
    def test_by_hand(self):
        self.assertEqual(twins(DRAWING, GAP, ()), ((0, 0, 5), (1, 1, 5)))
        self.assertEqual(twins(DRAWING, GAP, (0,)), ((1, 0, 5), (1, 1, 5)))
        self.assertEqual(twins(DRAWING, GAP, (1,)), ((0, 1, 5), (1, 1, 5)))
        self.assertEqual(twins(DRAWING, GAP, (1, 2)), ((0, 1, 5), (1, 1, 5)))
        self.assertIsNone(twins(DRAWING, GAP, (0, 1)))
        self.assertIsNone(twins(DRAWING, GAP, (0, 1, 2)))

    def test_the_breaking_one_may_come_ahead(self):
        self.assertEqual(twins((("a", 0, 9),), (((0, 1),), 4, 5), ()), ((4,), (0,)))

    def test_against_all_sets(self):
        for drawing, gap in gaps_of_few_sets(91, 250):
            for parts in tuples_of_parts(drawing):
                found = twins_by_all_sets(drawing, gap, parts)
                self.assertEqual(twins(drawing, gap, parts), found, (drawing, gap, parts))
                self.assertIs(decides(drawing, gap, parts), found is None)

    def test_the_words_of_decides(self):
        self.assertIs(decides(DRAWING, GAP, (0, 1)), True)
        self.assertIs(decides(DRAWING, GAP, (0, 2)), False)
        for drawing, gap in gaps_of_few_sets(92, 120, 20):
            for parts in tuples_of_parts(drawing):
                told = all(is_kept(gap, one) == is_kept(gap, other) for one, other
                           in itertools.combinations(sets_of(drawing), 2) if alike(one, other, parts))
                self.assertIs(decides(drawing, gap, parts), told)

    def test_parts_beside_those_that_decide_decide_too(self):
        for drawing, gap in gaps_of_few_sets(93, 120):
            for parts in tuples_of_parts(drawing):
                if decides(drawing, gap, parts):
                    for part in set(range(len(drawing))) - set(parts):
                        self.assertIs(decides(drawing, gap, tuple(sorted(parts + (part,)))), True)

    def test_what_always_or_never_holds_is_decided_by_no_parts(self):
        seen = set()
        for drawing, gap in random_gaps(94, 200):
            word = verdict(drawing, gap)
            self.assertIs(decides(drawing, gap, ()), word != "sometimes")
            self.assertEqual(fewest(drawing, gap) == (), word != "sometimes")
            seen.add(word)
        self.assertEqual(seen, {"always", "never", "sometimes"})


class Fewest(Asking):
    def test_by_hand(self):
        self.assertEqual(fewest(DRAWING, GAP), (0, 1))
        self.assertEqual(fewest(DRAWING, (((0, 2), (1, 1)), 0, 1)), (0, 1))
        self.assertEqual(fewest(DRAWING, (((0, 3), (1, 1)), 0, 2)), (0,))
        self.assertEqual(fewest(DRAWING, (((2, 1),), 6, 9)), (2,))
        self.assertEqual(fewest(DRAWING, (((2, 1),), 5, 6)), ())

    def test_of_as_many_the_lesser_tuple(self):
        # Each of the parts is 0, so each of them alone would decide as well as none.
        single = drawing_with([(0, 0)] * 3)
        self.assertEqual(fewest(single, (((0, 1), (2, 1)), 0, 0)), ())
        # The part of one number needs no measuring, whichever it is.
        self.assertEqual(fewest(drawing_with([(3, 3), (0, 1), (0, 1)]), (((0, 1), (1, 1), (2, 1)), 4, 4)), (1, 2))

    def test_against_all_tuples_of_parts(self):
        for drawing, gap in gaps_of_few_sets(95, 250):
            found = [parts for parts in tuples_of_parts(drawing) if twins_by_all_sets(drawing, gap, parts) is None]
            self.assertEqual(fewest(drawing, gap), min(found, key=lambda parts: (len(parts), parts)))

    def test_eight_parts(self):
        self.assertEqual(self.at_once(fewest, EIGHT, ALL_EIGHT), tuple(range(8)))
        self.assertEqual(self.at_once(fewest, EIGHT, (((2, 3), (5, 1), (7, 1)), 0, 2)), (2,))
        self.assertEqual(self.at_once(fewest, EIGHT, (((2, 3), (5, 1), (7, 1)), 0, 4)), (2, 5, 7))
        self.assertEqual(self.at_once(fewest, EIGHT, (((2, 3), (5, 3), (7, 1)), 0, 3)), (2, 5, 7))
        self.assertEqual(self.at_once(fewest, EIGHT, (((2, 3), (5, 3), (7, 1)), 0, 4)), (2, 5))


class WitnessHolds(Asking):
    def assert_no_witness(self, thing, many=2):
        self.assertIs(witness_holds(DRAWING, GAP, many, thing), False, thing)

    def test_by_hand(self):
        self.assertIs(witness_holds(DRAWING, GAP, 2, WITNESS), True)
        self.assertIs(witness_holds(DRAWING, GAP, 1, [((), (0, 0, 5), (1, 1, 6))]), True)
        self.assertIs(witness_holds(DRAWING, GAP, 1, [((), (1, 0, 6), (1, 2, 5))]), True)
        self.assertIs(witness_holds(DRAWING, GAP, 0, []), True)

    def test_of_another_many(self):
        for many in (0, 1, 3, 4):
            self.assert_no_witness(WITNESS, many)
        for many in (1, 2, 3, 4):
            self.assert_no_witness([], many)
        for many in (0, 2, 3, 4):
            self.assert_no_witness([((), (0, 0, 5), (1, 1, 6))], many)

    def test_one_more_than_there_are_parts(self):
        sets = sets_of(DRAWING)
        for keeping, breaking in itertools.product(sets, sets):
            self.assert_no_witness([((0, 1, 2), keeping, breaking)], 4)

    def test_beyond_that_nothing_shows_anything(self):
        for many in (5, 6, 9):
            self.assert_no_witness([], many)
            self.assert_no_witness(WITNESS, many)

    def test_one_thing_otherwise(self):
        for place in range(3):
            self.assert_no_witness(WITNESS[:place] + WITNESS[place + 1:])
            self.assert_no_witness(WITNESS[:place + 1] + WITNESS[place:])
            parts, keeping, breaking = WITNESS[place]
            for row in [
                (parts, breaking, keeping), (parts, keeping, keeping), (parts, breaking, breaking), (parts, keeping),
                (parts, keeping, breaking, breaking), [parts, keeping, breaking], (list(parts), keeping, breaking),
                (parts, list(keeping), breaking), (parts, keeping, list(breaking)), ((), keeping, breaking),
                (parts + (2,), keeping, breaking), (place, keeping, breaking), (parts, keeping[:2], breaking),
                (parts, keeping, breaking + (5,)), (parts, keeping, (1, 9, 5)), (parts, keeping, (1, 1, 7)),
                (parts, None, breaking), (parts, keeping, None), (None, keeping, breaking), {}, None, (), parts,
                (parts, (-1, 0, 5), breaking), ((place + 1,), keeping, breaking), ((-1,), keeping, breaking),
                (parts, str(keeping), breaking), (keeping, breaking, parts), {0: parts, 1: keeping, 2: breaking},
            ]:
                self.assert_no_witness(WITNESS[:place] + [row] + WITNESS[place + 1:])
        self.assert_no_witness([WITNESS[1], WITNESS[0], WITNESS[2]])
        self.assert_no_witness(tuple(WITNESS))
        self.assert_no_witness([WITNESS])
        self.assert_no_witness([((0,), (0, 2, 5), (1, 1, 5))] + WITNESS[1:])  # not alike at a
        self.assert_no_witness(WITNESS[:2] + [((2,), (0, 0, 5), (1, 1, 6))])  # not alike at c

    def test_truths_are_no_numbers(self):
        for row in [((0,), (True, 0, 5), (1, 1, 5)), ((0,), (1, False, 5), (1, 1, 5)), ((0,), (1, 0, 5), (1, True, 5)),
                    ((False,), (1, 0, 5), (1, 1, 5))]:
            self.assert_no_witness([row] + WITNESS[1:])
        self.assert_no_witness([WITNESS[0], ((True,), (0, 1, 5), (1, 1, 5)), WITNESS[2]])
        self.assertIs(witness_holds(DRAWING, GAP, 0, False), False)

    def test_whatever(self):
        for thing in whatever():
            for many in range(1, 5):
                self.assert_no_witness(thing, many)
                self.assert_no_witness([thing], many)
            self.assertIs(witness_holds(DRAWING, GAP, 0, thing), isinstance(thing, list) and not thing)
            self.assert_no_witness(WITNESS + [thing])
            self.assert_no_witness(WITNESS[:2] + [thing])
            self.assert_no_witness(WITNESS[:2] + [(thing, (0, 0, 5), (1, 1, 5))])
            self.assert_no_witness(WITNESS[:2] + [((2,), thing, (1, 1, 5))])
            self.assert_no_witness(WITNESS[:2] + [((2,), (0, 0, 5), thing)])
        for thing in no_whole_numbers() + [deep_tuple(1, 197), deep_list(1, 197)]:
            self.assert_no_witness(WITNESS[:2] + [((thing,), (0, 0, 5), (1, 1, 5))])
            self.assert_no_witness(WITNESS[:2] + [((2,), (0, thing, 5), (1, 1, 5))])
            self.assert_no_witness(WITNESS[:2] + [((2,), (0, 0, 5), (1, 1, thing))])

    def test_against_the_words_once_more(self):
        source = random.Random(96)
        seen = {True: 0, False: 0}
        for drawing, gap in gaps_of_few_sets(97, 400, 24):
            many = source.randint(0, len(drawing) + 1)
            rows = []
            for parts in tuples_of_parts(drawing, many - 1) if many else []:
                found = twins_by_all_sets(drawing, gap, parts)
                if found is None or source.random() < 0.1:
                    found = (source.choice(sets_of(drawing)), source.choice(sets_of(drawing)))
                rows.append((parts,) + found)
            told = witness_holds(drawing, gap, many, rows)
            self.assertIs(told, is_witness(drawing, gap, many, rows))
            seen[told] += 1
            if told:
                self.assertGreaterEqual(len(fewest(drawing, gap)), many)
        self.assertGreater(min(seen.values()), 50, seen)

    def test_far_more_sets_are_not_refused(self):
        rows = [((), (0, 0, 0), (-GREATEST, 0, 0))]
        self.assertIs(self.at_once(witness_holds, WIDE, WIDE_GAP, 1, rows), True)
        rows = [((0,), (-5, 5, 0), (-5, 4, 7)), ((1,), (0, 0, 0), (-1, 0, GREATEST)), ((2,), (0, 0, 1), (-1, 0, 1))]
        self.assertIs(self.at_once(witness_holds, WIDE, WIDE_GAP, 2, rows), True)
        self.assertIs(self.at_once(witness_holds, WIDE, WIDE_GAP, 2, rows[:2]), False)
        wrong = [((0,), (-5, 4, 0), (-5, 4, 7))] + rows[1:]
        self.assertIs(self.at_once(witness_holds, WIDE, WIDE_GAP, 2, wrong), False)
        self.assertIs(self.at_once(witness_holds, WIDE, WIDE_GAP, 4, [((0, 1, 2), (0, 0, 0), (-1, 0, 0))]), False)
        self.assertIs(self.at_once(witness_holds, WIDE, WIDE_GAP, 0, []), True)
        for thing in whatever():
            self.assertIs(witness_holds(WIDE, WIDE_GAP, 2, thing), False)

    def test_what_was_handed_in_stays(self):
        self.assert_unchanged(witness_holds, DRAWING, GAP, 2, list(WITNESS))
        self.assert_unchanged(witness_holds, DRAWING, GAP, 2, [[[0], [1, 0, 5], {"a": [1]}]] * 3)


class WitnessOf(Asking):
    def test_by_hand(self):
        told = witness_of(DRAWING, GAP)
        self.assertIs(type(told), list)
        self.assertEqual([row[0] for row in told], [(0,), (1,), (2,)])
        self.assertIs(witness_holds(DRAWING, GAP, 2, told), True)
        self.assertEqual(witness_of(DRAWING, (((2, 1),), 5, 6)), [])

    def test_of_as_many_as_fewest_tells(self):
        seen = set()
        for drawing, gap in random_gaps(98, 200):
            many = len(fewest(drawing, gap))
            told = witness_of(drawing, gap)
            self.assertIs(witness_holds(drawing, gap, many, told), True)
            self.assertIs(is_witness(drawing, gap, many, told), True)
            seen.add(many)
        self.assertTrue({0, 1, 2, 3} <= seen, seen)

    def test_eight_parts(self):
        for gap, many in [(ALL_EIGHT, 8), ((((2, 3), (5, 3), (7, 1)), 0, 3), 3), ((((2, 3),), 0, 0), 1)]:
            told = self.at_once(witness_of, EIGHT, gap)
            self.assertEqual(len(told), len(tuples_of_parts(EIGHT, many - 1)))
            self.assertIs(self.at_once(witness_holds, EIGHT, gap, many, told), True)
            for other in set(range(10)) - {many}:
                self.assertIs(witness_holds(EIGHT, gap, other, told), False)

    def test_what_was_told_is_the_askers_own(self):
        self.assert_told_anew(witness_of, DRAWING, GAP)
        self.assert_told_anew(witness_of, DRAWING, (((2, 1),), 5, 6))

    def test_the_same_question_has_the_same_answer(self):
        self.assert_same_again([
            lambda: decides(DRAWING, GAP, (0,)), lambda: twins(DRAWING, GAP, (0,)), lambda: fewest(DRAWING, GAP),
            lambda: witness_of(DRAWING, GAP), lambda: witness_holds(DRAWING, GAP, 2, WITNESS),
            lambda: fewest(EIGHT, ALL_EIGHT), lambda: vars(refusal_of(self, fewest, WIDE, WIDE_GAP))])


class TooMany(Asking):
    def assert_too_great(self, many, drawing, gap):
        fields = {"many": many, "most": 300}
        self.assert_refused(TooGreat, fields, self.at_once, fewest, drawing, gap)
        self.assert_refused(TooGreat, fields, self.at_once, witness_of, drawing, gap)
        for parts in [(), (0,), tuple(range(len(drawing)))]:
            self.assert_refused(TooGreat, fields, self.at_once, decides, drawing, gap, parts)
            self.assert_refused(TooGreat, fields, self.at_once, twins, drawing, gap, parts)

    def test_three_hundred_and_one_more(self):
        for drawing in [drawing_with([(1, 300)]), drawing_with([(0, 2), (0, 3), (0, 4), (0, 4)])]:
            gap = (((0, 1),), 1, 1)
            self.assertEqual(fewest(drawing, gap), (0,))
            self.assertEqual(decides(drawing, gap, ()), False)
            self.assertEqual(twins(drawing, gap, (0,)), None)
            self.assertIs(witness_holds(drawing, gap, 1, witness_of(drawing, gap)), True)
        for drawing in [drawing_with([(0, 300)]), drawing_with([(0, 6), (0, 42)])]:
            self.assert_too_great(301, drawing, (((0, 1),), 1, 1))

    def test_far_more(self):
        self.assert_too_great(10 * (2 * GREATEST + 1) * (GREATEST + 1), WIDE, WIDE_GAP)
        eight = drawing_with([(-GREATEST, GREATEST)] * 8)
        self.assert_too_great((2 * GREATEST + 1) ** 8, eight, (((0, 1),), 1, 1))
        # Also where the gap always or never holds.
        self.assert_too_great(3 ** 8, drawing_with([(0, 2)] * 8), (((0, 1),), 0, 2))
        self.assert_too_great(3 ** 8, drawing_with([(0, 2)] * 8), (((0, 1),), 3, 3))


if __name__ == "__main__":
    unittest.main()
