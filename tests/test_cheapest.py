import itertools
import random
import unittest

from asking import Asking, refusal_of
from cases import (
    choices_of, drawing_by, drawing_with, is_kept, is_safe, random_gap, random_jobs, random_offers, sets_of,
)
from gaugewright.cheapest import cheapest, floor_holds, floor_of
from gaugewright.errors import TooGreat
from gaugewright.offers import offers_of, price_of, safe
from samples import GREATEST, deep_list, deep_tuple, no_whole_numbers, whatever

DRAWING = (("a", 0, 9), ("b", 0, 9))
OFFERS = (((0, 9, 0), (2, 9, 1), (2, 5, 4)), ((0, 9, 0), (0, 5, 4)))
GAP = (((0, 1), (1, 1)), 0, 14)
JOB = (DRAWING, (GAP,))
DEAR = ("dear",)
FLOOR = [((0, 0), ("breaks", 0, (9, 9))), ((0, 1), DEAR), ((1, 0), ("breaks", 0, (6, 9))), ((1, 1), DEAR), ((2,), DEAR)]


def prices(offers, choice):
    return sum(of_part[number][2] for of_part, number in zip(offers, choice))


def cheapest_by_all_choices(job, offers):
    found = [(prices(offers, choice), choice) for choice in choices_of(offers) if is_safe(job, offers, choice)]
    return min(found)[1] if found else None


def is_floor(job, offers, price, rows):
    """The words of the document once more, for rows of a form that is in order."""
    beginnings = [beginning for beginning, why in rows]
    if beginnings != sorted(set(beginnings)):
        return False
    for one, other in itertools.permutations(beginnings, 2):
        if other[:len(one)] == one:
            return False
    for choice in choices_of(offers):
        if not any(choice[:many] in beginnings for many in range(len(offers) + 1)):
            return False
    return all(shows(job, offers, price, beginning, why) for beginning, why in rows)


def shows(job, offers, price, beginning, why):
    if why == DEAR:
        return prices(offers, beginning) >= price
    further = tuple(len(of_part) - 1 for of_part in offers[len(beginning):])
    inner = drawing_by(job[0], offers, beginning + further)
    return why[2] in sets_of(inner) and not is_kept(job[1][why[1]], why[2])


def random_floor(source, job, offers, price, beginning=()):
    """Rows of all choices, mostly with what shows something, now and then one left out, turned or too many."""
    if len(beginning) < len(offers) and source.random() < 0.6:
        size = len(offers[len(beginning)])
        rows = [random_floor(source, job, offers, price, beginning + (number,)) for number in range(size)]
        rows = [row for some in rows for row in some]
        change = source.random()
        if change < 0.03:
            rows.pop(source.randrange(len(rows))) if rows else None
        elif change < 0.05:
            rows.reverse()
        elif change < 0.07:
            rows.insert(0, (beginning, DEAR))
        return rows
    further = tuple(len(of_part) - 1 for of_part in offers[len(beginning):])
    inner = drawing_by(job[0], offers, beginning + further)
    found = [("breaks", number, one) for one in sets_of(inner) for number, gap in enumerate(job[1])
             if not is_kept(gap, one)]
    if prices(offers, beginning) >= price and source.random() < 0.98:
        return [(beginning, DEAR)]
    if found and source.random() < 0.98:
        return [(beginning, source.choice(found))]
    return [(beginning, ("breaks", source.randrange(len(job[1])), source.choice(sets_of(job[0]))))]


def many_offers(many):
    """One part with so many offers, more than a part may have, of which only the last is safe."""
    drawing = (("a", 0, many - 1),)
    return (drawing, ((((0, 1),), 0, 0),)), (tuple((0, many - 1 - number, number) for number in range(many)),)


class Cheapest(Asking):
    def test_by_hand(self):
        self.assertEqual(cheapest(JOB, OFFERS), (0, 1))
        self.assertEqual(cheapest((DRAWING, (GAP, (((0, 1),), 1, 9))), OFFERS), (2, 0))
        self.assertEqual(cheapest((DRAWING, ((((0, 1), (1, 1)), 0, 18),)), OFFERS), (0, 0))
        self.assertEqual(cheapest((DRAWING, ((((0, 1), (1, 1)), 2, 10),)), OFFERS), (2, 1))
        self.assertIsNone(cheapest((DRAWING, ((((0, 1), (1, 1)), 2, 9),)), OFFERS))

    def test_of_like_prices_the_least_tuple(self):
        offers = (((0, 9, 0), (0, 5, 3)),) * 2
        self.assertEqual(cheapest((DRAWING, ((((0, 1), (1, 1)), 0, 14),)), offers), (0, 1))
        three = drawing_with([(0, 1)] * 3)
        offers = (((0, 1, 0), (0, 0, 2)), ((0, 1, 0), (0, 0, 1)), ((0, 1, 0), (0, 0, 1)))
        self.assertEqual(cheapest((three, ((((0, 1), (1, 1), (2, 1)), 0, 1),)), offers), (0, 1, 1))
        self.assertEqual(cheapest((three, ((((0, 2), (1, 1), (2, 1)), 0, 2),)), offers), (0, 1, 1))
        self.assertEqual(cheapest((three, ((((0, 3), (1, 1), (2, 1)), 0, 2),)), offers), (1, 0, 0))

    def test_the_price_goes_ahead_of_the_tuple(self):
        offers = (((0, 9, 0), (0, 5, 3)), ((0, 9, 0), (0, 5, 4)))
        self.assertEqual(cheapest(JOB, offers), (1, 0))

    def test_against_all_choices(self):
        source = random.Random(61)
        for job in random_jobs(62, 250):
            offers = random_offers(source, job[0], 60)
            self.assertEqual(cheapest(job, offers), cheapest_by_all_choices(job, offers), (job, offers))

    def test_with_a_gap_less_or_an_offer_more_nothing_is_dearer(self):
        source = random.Random(63)
        for job in random_jobs(64, 150):
            offers = random_offers(source, job[0], 60)
            told = cheapest(job, offers)
            if told is None:
                continue
            for many in range(1, len(job[1])):
                fewer = cheapest((job[0], job[1][:many]), offers)
                self.assertLessEqual(price_of(offers, fewer), price_of(offers, told))
            low, high, price = offers[0][-1]
            if low < high and len(offers[0]) < 4:
                more = offers_of(job[0], [offers[0] + ((low, high - 1, price + 1),)] + list(offers[1:]))
                self.assertLessEqual(price_of(more, cheapest(job, more)), price_of(offers, told))

    def test_long_numbers(self):
        drawing = drawing_with([(-GREATEST, GREATEST), (0, GREATEST)])
        offers = (((-GREATEST, GREATEST, 0), (0, GREATEST, 5), (0, 1, GREATEST)), ((0, GREATEST, 0), (7, 7, GREATEST)))
        job = (drawing, ((((0, 1), (1, -1)), -GREATEST, GREATEST),))
        self.assertEqual(self.at_once(cheapest, job, offers), (1, 0))
        tight = (drawing, ((((0, 1), (1, -1)), -7, -6),))
        self.assertEqual(self.at_once(cheapest, tight, offers), (2, 1))
        self.assertEqual(self.at_once(floor_of, tight, offers, 2 * GREATEST + 1), None)
        floor = self.at_once(floor_of, tight, offers, 2 * GREATEST)
        self.assertIs(self.at_once(floor_holds, tight, offers, 2 * GREATEST, floor), True)


class TooMany(Asking):
    def test_three_hundred_and_one_more(self):
        job, offers = many_offers(300)
        self.assertEqual(self.at_once(cheapest, job, offers), (299,))
        self.assertIs(floor_holds(job, offers, 299, self.at_once(floor_of, job, offers, 299)), True)
        self.assertIsNone(floor_of(job, offers, 300))
        job, offers = many_offers(301)
        self.assert_refused(TooGreat, {"many": 301, "most": 300}, cheapest, job, offers)
        self.assert_refused(TooGreat, {"many": 301, "most": 300}, floor_of, job, offers, 299)
        self.assert_refused(TooGreat, {"many": 301, "most": 300}, floor_of, job, offers, 0)

    def test_as_many_as_offers_of_a_drawing_can_be(self):
        four = ((0, 9, 0), (0, 8, 1), (0, 7, 2), (0, 6, 3))
        for sizes, many in [((4, 4, 3, 3, 2), 288), ((2,) * 8, 256), ((4, 4, 4, 4, 1, 1, 1, 1), 256)]:
            drawing = drawing_with([(0, 9)] * len(sizes))
            offers = offers_of(drawing, [four[:size] for size in sizes])
            gap = (tuple((part, 1) for part in range(len(sizes))), 0, sum(10 - size for size in sizes))
            told = self.at_once(cheapest, (drawing, (gap,)), offers)
            self.assertEqual(told, tuple(size - 1 for size in sizes))
            floor = self.at_once(floor_of, (drawing, (gap,)), offers, price_of(offers, told))
            self.assertIs(floor_holds((drawing, (gap,)), offers, price_of(offers, told), floor), True)
        for sizes, many in [((4, 3, 3, 3, 3), 324), ((4,) * 8, 65536), ((3, 4, 4, 4, 2), 384)]:
            drawing = drawing_with([(0, 9)] * len(sizes))
            offers = offers_of(drawing, [four[:size] for size in sizes])
            for gap in [(((0, 1),), 0, 99), (((0, 1),), 50, 99)]:
                self.assert_refused(TooGreat, {"many": many, "most": 300}, cheapest, (drawing, (gap,)), offers)
                self.assert_refused(TooGreat, {"many": many, "most": 300}, floor_of, (drawing, (gap,)), offers, 1)

    def test_floors_of_more_choices_hold_too(self):
        drawing = drawing_with([(0, 9)] * 8)
        offers = offers_of(drawing, [((0, 9, 0), (0, 8, 1), (0, 7, 2), (0, 6, 3))] * 8)
        job = (drawing, ((((0, 1),), 0, 8), (((7, 1),), 7, 8)))
        for thing, told in [([((), ("breaks", 1, (0,) * 8))], True), ([((), ("breaks", 0, (0,) * 8))], False),
                            ([((number,), ("breaks", 1, (6,) * 8)) for number in range(4)], True),
                            ([((number,), ("breaks", 1, (6,) * 8)) for number in range(3)], False)]:
            self.assertIs(self.at_once(floor_holds, job, offers, 10 ** 20, thing), told)


class FloorHolds(Asking):
    def assert_no_floor(self, thing, price=4):
        self.assertIs(floor_holds(JOB, OFFERS, price, thing), False, thing)

    def test_by_hand(self):
        self.assertIs(floor_holds(JOB, OFFERS, 4, FLOOR), True)
        for price in (3, 2, 0, -1, -GREATEST):
            self.assertIs(floor_holds(JOB, OFFERS, price, FLOOR), True)
        for price in (5, 6, GREATEST):
            self.assertIs(floor_holds(JOB, OFFERS, price, FLOOR), False)
        coarse = [((0, 0), ("breaks", 0, (6, 9))), ((0, 1), DEAR), ((1, 0), ("breaks", 0, (9, 6))), ((1, 1), DEAR),
                  ((2, 0), DEAR), ((2, 1), DEAR)]
        self.assertIs(floor_holds(JOB, OFFERS, 4, coarse), True)

    def test_nothing_at_the_beginning(self):
        self.assertIs(floor_holds(JOB, OFFERS, 0, [((), DEAR)]), True)
        self.assertIs(floor_holds(JOB, OFFERS, -5, [((), DEAR)]), True)
        self.assertIs(floor_holds(JOB, OFFERS, 1, [((), DEAR)]), False)
        never = (DRAWING, ((((0, 1),), 3, 4),))
        self.assertIs(floor_holds(never, OFFERS, GREATEST, [((), ("breaks", 0, (5, 5)))]), True)
        self.assertIs(floor_holds(never, OFFERS, GREATEST, [((), ("breaks", 0, (4, 5)))]), False)
        self.assertIs(floor_holds(never, OFFERS, GREATEST, [((), ("breaks", 0, (6, 5)))]), False)
        self.assertIs(floor_holds(never, OFFERS, GREATEST, [((), ("breaks", 0, (5, 6)))]), False)

    def test_the_price_of_the_beginning_alone_counts(self):
        self.assertIs(floor_holds(JOB, OFFERS, 4, [((0,), DEAR), ((1,), DEAR), ((2,), DEAR)]), False)
        self.assertIs(floor_holds(JOB, OFFERS, 1, [((0, 0), ("breaks", 0, (9, 9))), ((0, 1), DEAR), ((1,), DEAR),
                                                   ((2,), DEAR)]), True)
        self.assertIs(floor_holds(JOB, OFFERS, 2, [((0, 0), ("breaks", 0, (9, 9))), ((0, 1), DEAR), ((1,), DEAR),
                                                   ((2,), DEAR)]), False)

    def test_further_parts_have_their_last_offer(self):
        never = (DRAWING, ((((0, 1), (1, 1)), 6, 18),))
        rows = [((0,), ("breaks", 0, (0, 5))), ((1,), ("breaks", 0, (2, 3))), ((2,), ("breaks", 0, (5, 0)))]
        self.assertIs(floor_holds(never, OFFERS, 99, rows), True)
        for place, one in [(0, (0, 6)), (1, (1, 3)), (2, (6, -1)), (2, (1, 1)), (2, (5, 1)), (0, (0, 9))]:
            wrong = list(rows)
            wrong[place] = (rows[place][0], ("breaks", 0, one))
            self.assertIs(floor_holds(never, OFFERS, 99, wrong), False)

    def test_the_beginnings(self):
        for place in range(len(FLOOR)):
            self.assert_no_floor(FLOOR[:place] + FLOOR[place + 1:])
            self.assert_no_floor(FLOOR[:place + 1] + FLOOR[place:])
            self.assert_no_floor(FLOOR[place:] + FLOOR[:place], 4 if place else 5)
        self.assert_no_floor([])
        self.assert_no_floor(FLOOR[::-1])
        self.assert_no_floor(FLOOR + [((2, 0), DEAR)])
        self.assert_no_floor(FLOOR[:4] + [((2,), DEAR), ((2, 1), DEAR)])
        self.assert_no_floor(FLOOR + [((3,), DEAR)])
        self.assert_no_floor([((-1,), DEAR)] + FLOOR)
        self.assert_no_floor([((), DEAR)] + FLOOR, 0)
        self.assert_no_floor(FLOOR[:4] + [((2, 0, 0), DEAR), ((2, 0, 1), DEAR), ((2, 1), DEAR)])
        self.assert_no_floor(FLOOR[:4] + [((2, 0, 0), DEAR), ((2, 1), DEAR)])
        self.assert_no_floor(FLOOR[:4] + [((2, 0), DEAR), ((2, 1), DEAR), ((2, 2), DEAR)])

    def test_one_thing_otherwise(self):
        for row in [
            ((2,),), ((2,), DEAR, DEAR), [(2,), DEAR], ([2], DEAR), (2, DEAR), ((2,), ["dear"]), ((2,), "dear"),
            ((2,), ("Dear",)), ((2,), ("dear", 0)), ((2,), ()), ((2,), None), ((2,), ("breaks",)), (("2",), DEAR),
            ((2,), ("breaks", 0)), ((2,), ("breaks", 0, (2, 0))), ((2,), ("breaks", 0, (9, 9))), {(2,): DEAR}, None,
            ((None,), DEAR), (((2,),), DEAR), ((2,), (DEAR,)), (DEAR, (2,)),
        ]:
            self.assert_no_floor(FLOOR[:4] + [row])
        for why in [
            ("breaks", 1, (9, 9)), ("breaks", -1, (9, 9)), ("breaks", False, (9, 9)), ("breaks", "0", (9, 9)),
            ("breaks", 0, [9, 9]), ("breaks", 0, (9,)), ("breaks", 0, (9, 9, 9)), ("breaks", 0, (9, 10)),
            ("breaks", 0, (9, 5)), ("breaks", 0, None), ("breaks", 0, (9, 9), 0), ("Breaks", 0, (9, 9)),
            ["breaks", 0, (9, 9)], ("breaks", (9, 9), 0), ("breaks", 10 ** 80, (9, 9)), ("dear",),
        ]:
            self.assert_no_floor([((0, 0), why)] + FLOOR[1:])
        self.assert_no_floor(tuple(FLOOR))
        self.assert_no_floor(dict(FLOOR))
        self.assert_no_floor([FLOOR])

    def test_truths_are_no_numbers(self):
        offers = (((0, 1, 0), (0, 0, 3)),)
        job = ((("a", 0, 1),), ((((0, 1),), 5, 5), (((0, 1),), 5, 5)))
        rows = [((0,), ("breaks", 0, (0,))), ((1,), ("breaks", 1, (0,)))]
        self.assertIs(floor_holds(job, offers, 9, rows), True)
        for wrong in [((False,), ("breaks", 0, (0,))), ((0,), ("breaks", False, (0,))),
                      ((0,), ("breaks", 0, (False,)))]:
            self.assertIs(floor_holds(job, offers, 9, [wrong, rows[1]]), False)
        self.assertIs(floor_holds(job, offers, 9, [rows[0], ((True,), ("breaks", 1, (0,)))]), False)
        self.assertIs(floor_holds(job, offers, 9, [rows[0], ((1,), ("breaks", True, (0,)))]), False)

    def test_whatever(self):
        for thing in whatever():
            self.assert_no_floor(thing)
            self.assert_no_floor([thing])
            self.assert_no_floor(FLOOR + [thing])
            self.assert_no_floor(FLOOR[:4] + [(thing, DEAR)])
            self.assert_no_floor(FLOOR[:4] + [((2,), thing)])
            self.assert_no_floor(FLOOR[:4] + [((2,), (thing,))])
            self.assert_no_floor([((0, 0), ("breaks", 0, thing))] + FLOOR[1:])
            self.assert_no_floor([((0, 0), (thing, 0, (9, 9)))] + FLOOR[1:])
        for thing in no_whole_numbers() + [deep_tuple(1, 196), deep_list(1, 196)]:
            self.assert_no_floor(FLOOR[:4] + [((thing,), DEAR)])
            self.assert_no_floor([((0, 0), ("breaks", thing, (9, 9)))] + FLOOR[1:])
            self.assert_no_floor([((0, 0), ("breaks", 0, (9, thing)))] + FLOOR[1:])

    def test_against_the_words_once_more(self):
        source = random.Random(65)
        seen = {True: 0, False: 0}
        for job in random_jobs(66, 300):
            offers = random_offers(source, job[0], 30)
            for price in (0, 2, 4, 9):
                rows = random_floor(source, job, offers, price)
                told = floor_holds(job, offers, price, rows)
                self.assertIs(told, is_floor(job, offers, price, rows), (job, offers, price, rows))
                seen[told] += 1
                if told:
                    best = cheapest(job, offers)
                    self.assertTrue(best is None or price_of(offers, best) >= price)
        self.assertGreater(min(seen.values()), 100, seen)

    def test_what_was_handed_in_stays(self):
        self.assert_unchanged(floor_holds, JOB, OFFERS, 4, list(FLOOR))
        self.assert_unchanged(floor_holds, JOB, OFFERS, 4, [[[2], ["dear"]], {"a": [1]}])


class FloorOf(Asking):
    def test_by_hand(self):
        self.assertIs(floor_holds(JOB, OFFERS, 4, floor_of(JOB, OFFERS, 4)), True)
        self.assertIs(type(floor_of(JOB, OFFERS, 4)), list)
        self.assertIsNone(floor_of(JOB, OFFERS, 5))
        self.assertIsNone(floor_of(JOB, OFFERS, GREATEST))
        for price in (3, 1, 0, -7):
            self.assertIs(floor_holds(JOB, OFFERS, price, floor_of(JOB, OFFERS, price)), True)

    def test_just_where_no_safe_choice_is_cheaper(self):
        source = random.Random(67)
        for job in random_jobs(68, 200):
            offers = random_offers(source, job[0], 60)
            best = cheapest_by_all_choices(job, offers)
            least = GREATEST if best is None else prices(offers, best)
            for price in sorted({-1, 0, 1, 3, 6, 12, least - 1, least, least + 1}):
                told = floor_of(job, offers, price)
                self.assertIs(told is None, price > least and best is not None)
                if told is not None:
                    self.assertIs(floor_holds(job, offers, price, told), True)
                    self.assertIs(is_floor(job, offers, price, told), True)

    def test_a_floor_for_one_more_gap_too(self):
        source = random.Random(69)
        for job in random_jobs(70, 80):
            offers = random_offers(source, job[0], 40)
            best = cheapest(job, offers)
            price = 7 if best is None else price_of(offers, best)
            floor = floor_of(job, offers, price)
            more = (job[0], job[1] + (random_gap(source, job[0], (1, 2, -3)),))
            self.assertIs(floor_holds(more, offers, price, floor), True)
            self.assertTrue(all(not safe(more, offers, choice) for choice in choices_of(offers)
                                if price_of(offers, choice) < price))

    def test_what_was_told_is_the_askers_own(self):
        self.assert_told_anew(floor_of, JOB, OFFERS, 4)
        self.assert_told_anew(floor_of, JOB, OFFERS, 0)

    def test_the_same_question_has_the_same_answer(self):
        job, offers = many_offers(301)
        self.assert_same_again([
            lambda: cheapest(JOB, OFFERS), lambda: floor_of(JOB, OFFERS, 4), lambda: floor_of(JOB, OFFERS, 5),
            lambda: floor_holds(JOB, OFFERS, 4, FLOOR), lambda: vars(refusal_of(self, cheapest, job, offers))])


if __name__ == "__main__":
    unittest.main()
