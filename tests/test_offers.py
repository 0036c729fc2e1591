import itertools
import random
import unittest

from asking import Asking, refusal_of
from cases import always_kept, choices_of, drawing_by, drawing_with, is_safe, long_gaps, random_jobs, random_offers
from gaugewright.drawings import narrowed
from gaugewright.errors import NoOffer
from gaugewright.offers import is_choice, narrowed_by, offers_of, price_of, safe
from samples import GREATEST, TOO_LONG, deep_list, deep_tuple, no_whole_numbers, whatever

DRAWING = (("a", 0, 9), ("b", -3, 3))
OFFERS = (((0, 9, 0), (1, 8, 2), (1, 7, 3), (4, 4, 10)), ((-3, 3, 0), (-3, 2, 5)))
SUM = (((0, 1), (1, 1)), -3, 12)


class OffersOf(Asking):
    def assert_no_offer(self, number, things, drawing=DRAWING):
        self.assert_refused(NoOffer, {"number": number}, offers_of, drawing, things)

    def test_offers(self):
        self.assertEqual(offers_of(DRAWING, list(OFFERS)), OFFERS)
        self.assertIs(type(offers_of(DRAWING, list(OFFERS))), tuple)
        plain = [((0, 9, 0),), ((-3, 3, 0),)]
        self.assertEqual(offers_of(DRAWING, plain), tuple(plain))
        for things in [[((0, 9, 0), (0, 8, 1))], [((0, 9, 0), (1, 9, 1))], [((0, 9, 0), (0, 0, GREATEST))],
                       [((0, 9, 0), (9, 9, 1))], [((0, 9, 0), (0, 8, 1), (0, 7, 2), (0, 6, 3))]]:
            self.assertEqual(offers_of(DRAWING[:1], things), tuple(things))

    def test_spans_below_nought(self):
        drawing = (("a", -9, -3), ("b", -5, 0))
        things = [((-9, -3, 0), (-9, -4, 1), (-8, -8, 2)), ((-5, 0, 0), (-4, -1, 7))]
        self.assertEqual(offers_of(drawing, things), tuple(things))
        self.assert_no_offer(0, [((-9, -3, 0), (-10, -4, 1)), things[1]], drawing)

    def test_a_single_number_leaves_no_narrower_one(self):
        drawing = (("a", 4, 4),)
        self.assertEqual(offers_of(drawing, [((4, 4, 0),)]), (((4, 4, 0),),))
        self.assert_no_offer(0, [((4, 4, 0), (4, 4, 1))], drawing)

    def test_long_numbers(self):
        drawing = drawing_with([(-GREATEST, GREATEST)])
        things = [((-GREATEST, GREATEST, 0), (1 - GREATEST, GREATEST, GREATEST - 1), (0, 0, GREATEST))]
        self.assertEqual(offers_of(drawing, things), tuple(things))
        self.assert_no_offer(0, [things[0][:2] + ((0, 0, TOO_LONG),)], drawing)
        wide = drawing_with([(-TOO_LONG, TOO_LONG)])
        self.assert_no_offer(0, [((-TOO_LONG, TOO_LONG, 0),)], wide)

    def test_each_wrong_thing_has_its_place(self):
        for wrong in [
            (), ((0, 9, 1),), ((0, 9, -1),), ((0, 8, 0),), ((1, 9, 0),), ((-1, 9, 0),), ((0, 10, 0),), ((9, 0, 0),),
            ((0, 9),), ((0, 9, 0, 0),), (0, 9, 0), ((0, 9, 0), ()), ((0, 9, 0), None), [(0, 9, 0)], ([0, 9, 0],),
            ((0, 9, 0), (0, 9, 1)), ((0, 9, 0), (-1, 8, 1)), ((0, 9, 0), (1, 10, 1)), ((0, 9, 0), (1, 8, 0)),
            ((0, 9, 0), (8, 1, 1)), ((0, 9, 0), (1, 8, 2), (1, 8, 3)), ((0, 9, 0), (1, 8, 2), (0, 7, 3)),
            ((0, 9, 0), (1, 8, 2), (2, 9, 3)), ((0, 9, 0), (1, 8, 2), (2, 7, 2)), ((0, 9, 0), (1, 8, 2), (2, 7, 1)),
            ((0, 9, 0), (1, 8, -2)), ((0, 9, 0), (10, 11, 2)), ((0, 9, 0), (1, 8, 2), (1, 7, 3), (1, 6, 3)),
            ((0, 9, 0), (0, 8, 1), (0, 7, 2), (0, 6, 3), (0, 5, 4)), ((0, 9, False),), ((False, 9, 0),),
            ((0, 9, 0), (1, 8, True)), ((0, 9, 0), (True, 8, 2)), ((0, 9, "0"),), ((0, 9, 0), (1, 8, "2")),
            (((0, 9), 0),), ((0, 9, (0,)),), {0: (0, 9, 0)}, ((0, 9, 0), (1, 8, 2, 3)), ((0, 9, 0), [1, 8, 2]),
            ((0, 9, 0), (0, 9, 0)),
        ]:
            with self.subTest(wrong=wrong):
                self.assert_no_offer(0, [wrong, OFFERS[1]])
                self.assert_no_offer(0, [wrong])
                self.assert_no_offer(1, [((-3, 3, 0),), wrong, wrong], (("b", -3, 3), ("a", 0, 9), ("c", 0, 9)))

    def test_offers_of_another_part(self):
        self.assert_no_offer(0, [OFFERS[1], OFFERS[0]])
        self.assert_no_offer(1, [OFFERS[0], OFFERS[0]])

    def test_things_behind_the_last_part(self):
        self.assert_no_offer(2, list(OFFERS) + [OFFERS[0]])
        self.assert_no_offer(2, list(OFFERS) + [None, None])
        self.assert_no_offer(1, [OFFERS[0], None, OFFERS[0]])

    def test_fewer_things_than_parts(self):
        self.assert_no_offer(0, [])
        self.assert_no_offer(1, [OFFERS[0]])
        self.assert_no_offer(0, [OFFERS[1]])
        eight = drawing_with([(0, 1)] * 8)
        self.assert_no_offer(7, [((0, 1, 0),)] * 7, eight)
        self.assert_no_offer(8, [((0, 1, 0),)] * 9, eight)
        self.assertEqual(offers_of(eight, [((0, 1, 0),)] * 8), (((0, 1, 0),),) * 8)

    def test_whatever(self):
        for thing in whatever():
            self.assert_no_offer(0, [thing, OFFERS[1]])
            self.assert_no_offer(1, [OFFERS[0], thing])
            self.assert_no_offer(2, list(OFFERS) + [thing])
            self.assert_no_offer(0, [((0, 9, 0), thing)])
            self.assert_no_offer(0, [(thing, (1, 8, 2))])
        for thing in no_whole_numbers() + [deep_tuple(1, 198), deep_list(1, 198)]:
            for offer in [(thing, 8, 2), (1, thing, 2), (1, 8, thing)]:
                self.assert_no_offer(0, [((0, 9, 0), offer)])
            for offer in [(thing, 9, 0), (0, thing, 0), (0, 9, thing)]:
                self.assert_no_offer(0, [(offer,)])

    def test_what_was_handed_in_stays(self):
        things = list(OFFERS)
        told = self.assert_unchanged(offers_of, DRAWING, things)
        things[0] = None
        things.append(1)
        self.assertEqual(told, OFFERS)
        wrong = [OFFERS[0], [[-3, 3, 0], {"a": [1]}]]
        self.assert_no_offer(1, wrong)
        self.assertEqual(wrong, [OFFERS[0], [[-3, 3, 0], {"a": [1]}]])


class Choices(Asking):
    def test_just_the_choices(self):
        for thing in itertools.product(range(-2, 6), repeat=2):
            self.assertIs(is_choice(OFFERS, thing), 0 <= thing[0] <= 3 and 0 <= thing[1] <= 1)

    def test_no_choices(self):
        for thing in [(), (0,), (0, 0, 0), [0, 0], (0, True), (False, 0), (0, "0"), (0, None), "00", {0: 0, 1: 0},
                      ((0, 0),), (10 ** 80, 0), (0, -10 ** 80)]:
            self.assertIs(is_choice(OFFERS, thing), False)

    def test_whatever(self):
        for thing in whatever():
            self.assertIs(is_choice(OFFERS, thing), False)
        for thing in no_whole_numbers() + [deep_tuple(1, 199), deep_list(1, 199)]:
            self.assertIs(is_choice(OFFERS, (thing, 0)), False)
            self.assertIs(is_choice(OFFERS, (0, thing)), False)
        self.assert_unchanged(is_choice, OFFERS, [[0], {"a": [0]}])

    def test_prices(self):
        self.assertEqual([price_of(OFFERS, choice) for choice in choices_of(OFFERS)], [0, 5, 2, 7, 3, 8, 10, 15])
        long_ones = (((0, 9, 0), (1, 9, GREATEST)),) * 8
        self.assertEqual(price_of(long_ones, (1,) * 8), 8 * GREATEST)

    def test_narrowed_drawings(self):
        self.assertEqual(narrowed_by(DRAWING, OFFERS, (0, 0)), DRAWING)
        self.assertEqual(narrowed_by(DRAWING, OFFERS, (3, 1)), (("a", 4, 4), ("b", -3, 2)))
        for choice in choices_of(OFFERS):
            told = narrowed(narrowed(DRAWING, 0, OFFERS[0][choice[0]][:2]), 1, OFFERS[1][choice[1]][:2])
            self.assertEqual(narrowed_by(DRAWING, OFFERS, choice), told)


class Safe(Asking):
    def test_by_hand(self):
        self.assertIs(safe((DRAWING, (SUM,)), OFFERS, (0, 0)), True)
        tighter = (SUM[0], -2, 10)
        self.assertEqual([safe((DRAWING, (tighter,)), OFFERS, choice) for choice in choices_of(OFFERS)],
                         [False, False, False, True, True, True, True, True])
        self.assertIs(safe((DRAWING, (SUM, tighter)), OFFERS, (0, 0)), False)
        self.assertIs(safe((DRAWING, (SUM, tighter)), OFFERS, (1, 1)), True)

    def test_against_all_sets(self):
        source = random.Random(51)
        for job in random_jobs(52, 150):
            offers = random_offers(source, job[0], 40)
            for choice in choices_of(offers):
                self.assertIs(safe(job, offers, choice), is_safe(job, offers, choice))

    def test_no_lesser_numbers_are_safe_too(self):
        source = random.Random(53)
        for job in random_jobs(54, 100):
            offers = random_offers(source, job[0], 40)
            found = [choice for choice in choices_of(offers) if safe(job, offers, choice)]
            last = tuple(len(of_part) - 1 for of_part in offers)
            self.assertIs(bool(found), safe(job, offers, last))
            for choice in choices_of(offers):
                if any(all(mine >= its for mine, its in zip(choice, one)) for one in found):
                    self.assertIs(safe(job, offers, choice), True)

    def test_long_spans(self):
        for drawing, gap in long_gaps(55, 100):
            offers = tuple(((low, high, 0), (high, high, 1))[:2 if low < high else 1] for name, low, high in drawing)
            for choice in choices_of(offers)[:20]:
                told = self.at_once(safe, (drawing, (gap,)), offers, choice)
                self.assertIs(told, always_kept(drawing_by(drawing, offers, choice), gap))

    def test_the_same_question_has_the_same_answer(self):
        job = (DRAWING, (SUM,))
        self.assert_same_again([
            lambda: offers_of(DRAWING, list(OFFERS)), lambda: is_choice(OFFERS, (3, 1)),
            lambda: price_of(OFFERS, (3, 1)), lambda: narrowed_by(DRAWING, OFFERS, (3, 1)),
            lambda: safe(job, OFFERS, (3, 1)),
            lambda: vars(refusal_of(self, offers_of, DRAWING, [None]))])


if __name__ == "__main__":
    unittest.main()
