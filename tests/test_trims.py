import itertools
import random
import unittest

from asking import Asking, refusal_of
from cases import drawing_with, is_kept, random_gap, random_jobs, sets_of, worth
from gaugewright.errors import NoOffer, TooGreat
from gaugewright.trims import bar_holds, bar_of, cheapest_filing, filed, filing_price, is_filing, trims_of
from samples import GREATEST, TOO_LONG, deep_list, deep_tuple, no_whole_numbers, whatever

DRAWING = (("a", 0, 20), ("b", 0, 20), ("c", 0, 20))
TRIMS = (((2, 3), (5, 8)), ((1, 2),), ())
BUILT = (10, 7, 3)
GAP = (((0, 1), (1, 1)), 0, 12)
JOB = (DRAWING, (GAP,))
DEAR = ("dear",)
BAR = [((0,), ("off", 0)), ((1,), ("off", 0)), ((2,), DEAR)]


def filings_of(trims):
    return list(itertools.product(*[range(len(of_part) + 1) for of_part in trims]))


def way(of_part, number):
    return of_part[number - 1] if number else (0, 0)


def price_by_hand(trims, filing):
    return sum(way(of_part, number)[1] for of_part, number in zip(trims, filing))


def left_by_hand(built, trims, filing):
    return tuple(had - way(of_part, number)[0] for had, of_part, number in zip(built, trims, filing))


def cheapest_by_all_filings(job, built, trims):
    found = [(price_by_hand(trims, filing), filing) for filing in filings_of(trims)
             if all(is_kept(gap, left_by_hand(built, trims, filing)) for gap in job[1])]
    return min(found)[1] if found else None


def all_that_may_be_left(built, trims, beginning):
    """All tuples, number by number: what the beginning leaves, and off the further parts each whole number."""
    ranges = [(left,) for left in left_by_hand(built, trims, beginning)]
    for had, of_part in list(zip(built, trims))[len(beginning):]:
        ranges.append([had - much for much in range((of_part[-1][0] if of_part else 0) + 1)])
    return list(itertools.product(*ranges))


def shows(job, built, trims, price, beginning, why):
    if why == DEAR:
        return price_by_hand(trims, beginning) >= price
    terms, low, high = gap = job[1][why[1]]
    worths = [worth(gap, left) for left in all_that_may_be_left(built, trims, beginning)]
    return all(each < low for each in worths) or all(each > high for each in worths)


def is_bar(job, built, trims, price, rows):
    """The words of the document once more, for rows of a form that is in order."""
    beginnings = [beginning for beginning, why in rows]
    if any(beginnings[place] >= beginnings[place + 1] for place in range(len(rows) - 1)):
        return False
    if any(other[:len(one)] == one for one, other in itertools.permutations(beginnings, 2)):
        return False
    for filing in filings_of(trims):
        if not any(filing[:len(beginning)] == beginning for beginning in beginnings):
            return False
    return all(shows(job, built, trims, price, beginning, why) for beginning, why in rows)


def random_trims(source, drawing, most):
    while True:
        trims = tuple(random_trims_of(source) for part in drawing)
        if len(filings_of(trims)) <= most:
            return trims


def random_trims_of(source):
    size = source.randint(0, 3)
    muches, prices = [sorted(source.sample(range(1, 8), size)) for side in "ab"]
    return tuple(zip(muches, prices))


def random_questions(seed, many, most):
    source = random.Random(seed)
    for job in random_jobs(seed + 1, many):
        trims = random_trims(source, job[0], most)
        built = source.choice(sets_of(job[0]))
        # Where nothing is taken off at most jobs are kept or lost; so each gap is moved near some filing's worth.
        gaps = []
        for gap in job[1][:3]:
            low = worth(gap, left_by_hand(built, trims, source.choice(filings_of(trims)))) + source.randint(-3, 1)
            gaps.append((gap[0], low, low + source.randint(0, 5)))
        yield (job[0], tuple(gaps)), built, trims


def random_bar(source, job, built, trims, price, beginning=()):
    """Rows of all filings, mostly with what shows something, now and then one left out, turned or too many."""
    if len(beginning) < len(trims) and source.random() < 0.6:
        size = len(trims[len(beginning)]) + 1
        rows = [random_bar(source, job, built, trims, price, beginning + (number,)) for number in range(size)]
        rows = [row for some in rows for row in some]
        change = source.random()
        if change < 0.03:
            rows.pop(source.randrange(len(rows))) if rows else None
        elif change < 0.05:
            rows.reverse()
        elif change < 0.07:
            rows.insert(0, (beginning, DEAR))
        return rows
    found = [why for why in [DEAR] + [("off", number) for number in range(len(job[1]))]
             if shows(job, built, trims, price, beginning, why)]
    if found and source.random() < 0.97:
        return [(beginning, source.choice(found))]
    if len(beginning) < len(trims):
        size = len(trims[len(beginning)]) + 1
        rows = [random_bar(source, job, built, trims, price, beginning + (number,)) for number in range(size)]
        return [row for some in rows for row in some]
    return [(beginning, source.choice([DEAR, ("off", 0)]))]


def many_trims(many):
    """One part with so many filings, more than a part may have, of which only the last does."""
    return ((("a", 0, many),), ((((0, 1),), 0, 0),)), (many - 1,), (tuple((each, each) for each in range(1, many)),)


class TrimsOf(Asking):
    def assert_no_offer(self, number, things, drawing=DRAWING):
        self.assert_refused(NoOffer, {"number": number}, trims_of, drawing, things)

    def test_trims(self):
        self.assertEqual(trims_of(DRAWING, list(TRIMS)), TRIMS)
        self.assertIs(type(trims_of(DRAWING, list(TRIMS))), tuple)
        self.assertEqual(trims_of(DRAWING, [(), (), ()]), ((), (), ()))
        for thing in [((1, 1),), ((GREATEST, GREATEST),), ((1, 1), (2, 2), (3, 3)), ((1, 9), (2, 10)),
                      ((1, 1), (GREATEST, 2)), ((30, 1),)]:
            self.assertEqual(trims_of(DRAWING[:1], [thing]), (thing,))

    def test_each_wrong_thing_has_its_place(self):
        for wrong in [
            ((0, 1),), ((1, 0),), ((-1, 1),), ((1, -1),), ((1,),), ((1, 1, 1),), (1, 1), [(1, 1)], ([1, 1],), (None,),
            ((1, 5), (2, 5)), ((1, 5), (2, 4)), ((5, 1), (5, 2)), ((5, 1), (4, 2)), ((1, 1), (1, 2)),
            ((1, 1), (2, 1)), ((2, 2), (1, 3)), ((2, 2), (3, 1)), ((1, 1), (2, 2), (2, 3)),
            ((1, 1), (2, 2), (3, 2)), ((1, 1), (2, 2), (3, 3), (4, 4)), ((True, 1),), ((1, True),), ((1, "1"),),
            (("1", 1),), ((TOO_LONG, 1),), ((1, TOO_LONG),), ((1, 1), ()), ((1, 1), None), {1: 1}, {}, [], "", None,
            0, True, ((1, (1,)),), (((1, 1),),), ((1, 1), (2, 2, 2)), ((1, 1), [2, 2]), ((1, False),),
        ]:
            with self.subTest(wrong=wrong):
                self.assert_no_offer(0, [wrong, (), ()])
                self.assert_no_offer(1, [((1, 1),), wrong, wrong])
                self.assert_no_offer(2, [(), (), wrong])
                self.assert_no_offer(0, [wrong])

    def test_things_behind_the_last_part(self):
        self.assert_no_offer(3, list(TRIMS) + [()])
        self.assert_no_offer(3, list(TRIMS) + [None, ()])
        self.assert_no_offer(1, [(), None, (), ()])

    def test_fewer_things_than_parts(self):
        self.assert_no_offer(0, [])
        self.assert_no_offer(1, [()])
        self.assert_no_offer(2, list(TRIMS[:2]))
        eight = drawing_with([(0, 1)] * 8)
        self.assert_no_offer(7, [()] * 7, eight)
        self.assert_no_offer(8, [()] * 9, eight)
        self.assertEqual(trims_of(eight, [((5, 6),)] * 8), (((5, 6),),) * 8)

    def test_whatever(self):
        for thing in whatever():
            if isinstance(thing, tuple) and thing in ((), ((1, 2),), ((1, 2), (3, 4))):
                self.assertEqual(trims_of(DRAWING, [thing, (), ()]), (thing, (), ()))
            else:
                self.assert_no_offer(0, [thing, (), ()])
                self.assert_no_offer(1, [(), thing, thing])
            self.assert_no_offer(3, list(TRIMS) + [thing])
            self.assert_no_offer(0, [(thing, (5, 8)), (), ()])
        for thing in no_whole_numbers() + [deep_tuple(1, 198), deep_list(1, 198)]:
            for trim in [(thing, 8), (5, thing)]:
                self.assert_no_offer(0, [((2, 3), trim), (), ()])
                self.assert_no_offer(0, [(trim,), (), ()])

    def test_what_was_handed_in_stays(self):
        things = list(TRIMS)
        told = self.assert_unchanged(trims_of, DRAWING, things)
        things[0] = None
        things.append(1)
        self.assertEqual(told, TRIMS)
        wrong = [TRIMS[0], [[2, 3], {"a": [1]}]]
        self.assert_no_offer(1, wrong)
        self.assertEqual(wrong, [TRIMS[0], [[2, 3], {"a": [1]}]])


class Filings(Asking):
    def test_just_the_filings(self):
        for thing in itertools.product(range(-1, 4), repeat=3):
            told = thing in filings_of(TRIMS)
            self.assertIs(is_filing(TRIMS, thing), told)

    def test_no_filings(self):
        for thing in [(), (0, 0), (0, 0, 0, 0), [0, 0, 0], (0, True, 0), (0, 0, False), (0, "0", 0), (0, None, 0),
                      "000", {0: 0, 1: 0, 2: 0}, ((0, 0, 0),), (10 ** 80, 0, 0), (0, -10 ** 80, 0)]:
            self.assertIs(is_filing(TRIMS, thing), False)

    def test_whatever(self):
        for thing in whatever():
            self.assertIs(is_filing(TRIMS, thing), False)
            told = isinstance(thing, int) and not isinstance(thing, bool) and 0 <= thing <= 1
            self.assertIs(is_filing(TRIMS, (2, thing, 0)), told)
        for thing in no_whole_numbers() + [deep_tuple(1, 199), deep_list(1, 199)]:
            self.assertIs(is_filing(TRIMS, (thing, 0, 0)), False)
        self.assert_unchanged(is_filing, TRIMS, [[0], {"a": [0]}])

    def test_filed_and_prices(self):
        self.assertEqual([filed(BUILT, TRIMS, filing) for filing in filings_of(TRIMS)],
                         [(10, 7, 3), (10, 6, 3), (8, 7, 3), (8, 6, 3), (5, 7, 3), (5, 6, 3)])
        self.assertEqual([filing_price(TRIMS, filing) for filing in filings_of(TRIMS)], [0, 2, 3, 5, 8, 10])

    def test_what_is_left_may_be_no_set(self):
        self.assertEqual(filed((1, 0, 3), TRIMS, (2, 1, 0)), (-4, -1, 3))
        long_ones = (((GREATEST, GREATEST),),) * 8
        self.assertEqual(filed((-GREATEST,) * 8, long_ones, (1,) * 8), (-2 * GREATEST,) * 8)
        self.assertEqual(filing_price(long_ones, (1,) * 8), 8 * GREATEST)


class CheapestFiling(Asking):
    def test_by_hand(self):
        self.assertEqual(cheapest_filing(JOB, BUILT, TRIMS), (2, 0, 0))
        self.assertEqual(cheapest_filing((DRAWING, ((GAP[0], 0, 17),)), BUILT, TRIMS), (0, 0, 0))
        self.assertEqual(cheapest_filing((DRAWING, ((GAP[0], 0, 16),)), BUILT, TRIMS), (0, 1, 0))
        self.assertEqual(cheapest_filing((DRAWING, ((GAP[0], 0, 15),)), BUILT, TRIMS), (1, 0, 0))
        self.assertEqual(cheapest_filing((DRAWING, ((GAP[0], 0, 11),)), BUILT, TRIMS), (2, 1, 0))
        self.assertIsNone(cheapest_filing((DRAWING, ((GAP[0], 0, 10),)), BUILT, TRIMS))
        self.assertIsNone(cheapest_filing((DRAWING, ((GAP[0], 18, 20),)), BUILT, TRIMS))
        self.assertIsNone(cheapest_filing((DRAWING, (GAP, (((0, 1),), 6, 9))), BUILT, TRIMS))

    def test_of_like_prices_the_least_tuple(self):
        trims = (((2, 3),), ((2, 3),), ((2, 1),))
        self.assertEqual(cheapest_filing((DRAWING, ((GAP[0], 0, 15),)), BUILT, trims), (0, 1, 0))

    def test_what_is_left_need_be_no_set(self):
        self.assertEqual(cheapest_filing((DRAWING, ((((0, 1),), -9, -4),)), (1, 0, 0), TRIMS), (2, 0, 0))

    def test_against_all_filings(self):
        seen = set()
        for job, built, trims in random_questions(121, 300, 60):
            told = cheapest_filing(job, built, trims)
            self.assertEqual(told, cheapest_by_all_filings(job, built, trims), (job, built, trims))
            seen.add(None if told is None else sum(1 for number in told if number))
        self.assertTrue({None, 0, 1, 2} <= seen, seen)

    def test_long_numbers(self):
        drawing = drawing_with([(-GREATEST, GREATEST)])
        trims = (((1, 1), (GREATEST, GREATEST)),)
        self.assertEqual(cheapest_filing((drawing, ((((0, 1),), 0, 0),)), (GREATEST,), trims), (2,))
        self.assertIsNone(bar_of((drawing, ((((0, 1),), 0, 0),)), (GREATEST,), trims, GREATEST + 1))
        bar = bar_of((drawing, ((((0, 1),), 0, 0),)), (GREATEST,), trims, GREATEST)
        self.assertIs(bar_holds((drawing, ((((0, 1),), 0, 0),)), (GREATEST,), trims, GREATEST, bar), True)


class BarHolds(Asking):
    def assert_no_bar(self, thing, price=8):
        self.assertIs(bar_holds(JOB, BUILT, TRIMS, price, thing), False, thing)

    def test_by_hand(self):
        self.assertIs(bar_holds(JOB, BUILT, TRIMS, 8, BAR), True)
        for price in (7, 3, 0, -1, -GREATEST):
            self.assertIs(bar_holds(JOB, BUILT, TRIMS, price, BAR), True)
        for price in (9, 10, GREATEST):
            self.assertIs(bar_holds(JOB, BUILT, TRIMS, price, BAR), False)
        fine = [((0, 0), ("off", 0)), ((0, 1, 0), ("off", 0)), ((1,), ("off", 0)), ((2, 0, 0), DEAR), ((2, 1), DEAR)]
        self.assertIs(bar_holds(JOB, BUILT, TRIMS, 8, fine), True)

    def test_nothing_at_the_beginning(self):
        for price, told in [(0, True), (-5, True), (1, False)]:
            self.assertIs(bar_holds(JOB, BUILT, TRIMS, price, [((), DEAR)]), told)
        # With all trims a and b come to 11 at least, with none to 17.
        for low, high, told in [(0, 10, True), (0, 11, False), (18, 20, True), (17, 20, False), (12, 12, False)]:
            job = (DRAWING, ((GAP[0], low, high),))
            self.assertIs(bar_holds(job, BUILT, TRIMS, GREATEST, [((), ("off", 0))]), told)

    def test_all_below_or_all_above(self):
        # Filings leave 10, 8 or 5, but off a further part any whole number up to the last much is taken.
        job = (DRAWING, ((((0, 1),), 6, 7),))
        self.assertIs(bar_holds(job, BUILT, TRIMS, 99, [((), ("off", 0))]), False)
        self.assertIs(bar_holds(job, BUILT, TRIMS, 99, [((number,), ("off", 0)) for number in range(3)]), True)
        # By times below nought the worths rise with what is taken off.
        job = (DRAWING, ((((0, -1),), -4, 0),))
        self.assertIs(bar_holds(job, BUILT, TRIMS, 99, [((), ("off", 0))]), True)
        job = (DRAWING, ((((0, -1),), -5, 0),))
        self.assertIs(bar_holds(job, BUILT, TRIMS, 99, [((), ("off", 0))]), False)
        # By 2 times alone not each number is a worth, yet worths on both sides are not all on one.
        job = (DRAWING, ((((0, 2),), 15, 15),))
        self.assertIs(bar_holds(job, BUILT, TRIMS, 99, [((), ("off", 0))]), False)

    def test_a_part_without_trims_stays(self):
        job = (DRAWING, ((((2, 1),), 0, 2),))
        self.assertIs(bar_holds(job, BUILT, TRIMS, 99, [((), ("off", 0))]), True)
        job = (DRAWING, ((((2, 1),), 0, 3),))
        self.assertIs(bar_holds(job, BUILT, TRIMS, 99, [((), ("off", 0))]), False)

    def test_the_price_of_the_beginning_alone_counts(self):
        self.assert_no_bar([((0,), ("off", 0)), ((1,), DEAR), ((2,), DEAR)])
        self.assertIs(bar_holds(JOB, BUILT, TRIMS, 3, [((0,), ("off", 0)), ((1,), DEAR), ((2,), DEAR)]), True)
        self.assertIs(bar_holds(JOB, BUILT, TRIMS, 4, [((0,), ("off", 0)), ((1,), DEAR), ((2,), DEAR)]), False)

    def test_the_beginnings(self):
        for place in range(len(BAR)):
            self.assert_no_bar(BAR[:place] + BAR[place + 1:])
            self.assert_no_bar(BAR[:place + 1] + BAR[place:])
        self.assert_no_bar([])
        self.assert_no_bar(BAR[::-1])
        self.assert_no_bar(BAR + [((2, 0), DEAR)])
        self.assert_no_bar(BAR + [((3,), DEAR)])
        self.assert_no_bar([((-1,), DEAR)] + BAR)
        self.assert_no_bar([((), DEAR)] + BAR, 0)
        self.assert_no_bar(BAR[:2] + [((2, 0), DEAR)])
        self.assert_no_bar(BAR[:2] + [((2, 0), DEAR), ((2, 1), DEAR), ((2, 2), DEAR)])
        self.assert_no_bar(BAR[:2] + [((2, 0, 0, 0), DEAR), ((2, 1), DEAR)])
        self.assert_no_bar(BAR[:2] + [((2, 0, 0), DEAR), ((2, 0, 1), DEAR), ((2, 1), DEAR)])
        self.assertIs(bar_holds(JOB, BUILT, TRIMS, 8, BAR[:2] + [((2, 0), DEAR), ((2, 1), DEAR)]), True)

    def test_one_thing_otherwise(self):
        for row in [
            ((2,),), ((2,), DEAR, DEAR), [(2,), DEAR], ([2], DEAR), (2, DEAR), ((2,), ["dear"]), ((2,), "dear"),
            ((2,), ("Dear",)), ((2,), ("dear", 0)), ((2,), ()), ((2,), None), ((2,), ("off",)), (("2",), DEAR),
            ((2,), ("off", 0)), {(2,): DEAR}, None, ((None,), DEAR), (((2,),), DEAR), ((2,), (DEAR,)), (DEAR, (2,)),
        ]:
            self.assert_no_bar(BAR[:2] + [row])
        for why in [
            ("off", 1), ("off", -1), ("off", False), ("off", "0"), ("off", None), ("off", (0,)), ("off",), ("Off", 0),
            ("off", 0, 0), ["off", 0], ("off", 10 ** 80), ("dear",), (0, "off"), ("breaks", 0), {"off": 0},
        ]:
            self.assert_no_bar([((0,), why)] + BAR[1:])
        self.assert_no_bar(tuple(BAR))
        self.assert_no_bar(dict(BAR))
        self.assert_no_bar([BAR])

    def test_truths_are_no_numbers(self):
        job = (DRAWING[:1], ((((0, 1),), 50, 60),) * 2)
        trims = (((2, 3),),)
        rows = [((0,), ("off", 0)), ((1,), ("off", 1))]
        self.assertIs(bar_holds(job, (10,), trims, 9, rows), True)
        for wrong in [((False,), ("off", 0)), ((0,), ("off", False))]:
            self.assertIs(bar_holds(job, (10,), trims, 9, [wrong, rows[1]]), False)
        for wrong in [((True,), ("off", 1)), ((1,), ("off", True))]:
            self.assertIs(bar_holds(job, (10,), trims, 9, [rows[0], wrong]), False)

    def test_whatever(self):
        for thing in whatever():
            self.assert_no_bar(thing)
            self.assert_no_bar([thing])
            self.assert_no_bar(BAR + [thing])
            self.assert_no_bar(BAR[:2] + [(thing, DEAR)])
            self.assert_no_bar(BAR[:2] + [((2,), thing)])
            self.assert_no_bar(BAR[:2] + [((2,), (thing,))])
            self.assert_no_bar([((0,), (thing, 0))] + BAR[1:])
        for thing in no_whole_numbers() + [deep_tuple(1, 196), deep_list(1, 196)]:
            self.assert_no_bar(BAR[:2] + [((thing,), DEAR)])
            self.assert_no_bar([((0,), ("off", thing))] + BAR[1:])

    def test_against_the_words_once_more(self):
        source = random.Random(122)
        seen = {True: 0, False: 0}
        for job, built, trims in random_questions(123, 250, 30):
            for price in (0, 2, 4, 9):
                rows = random_bar(source, job, built, trims, price)
                told = bar_holds(job, built, trims, price, rows)
                self.assertIs(told, is_bar(job, built, trims, price, rows), (job, built, trims, price, rows))
                seen[told] += 1
                if told:
                    best = cheapest_filing(job, built, trims)
                    self.assertTrue(best is None or filing_price(trims, best) >= price)
        self.assertGreater(min(seen.values()), 100, seen)

    def test_what_was_handed_in_stays(self):
        self.assert_unchanged(bar_holds, JOB, BUILT, TRIMS, 8, list(BAR))
        self.assert_unchanged(bar_holds, JOB, BUILT, TRIMS, 8, [[[2], ["dear"]], {"a": [1]}])


class BarOf(Asking):
    def test_by_hand(self):
        self.assertIs(type(bar_of(JOB, BUILT, TRIMS, 8)), list)
        for price in (8, 7, 3, 1, 0, -7):
            self.assertIs(bar_holds(JOB, BUILT, TRIMS, price, bar_of(JOB, BUILT, TRIMS, price)), True)
        for price in (9, 10, GREATEST):
            self.assertIsNone(bar_of(JOB, BUILT, TRIMS, price))

    def test_just_where_no_filing_that_does_is_cheaper(self):
        for job, built, trims in random_questions(124, 200, 60):
            best = cheapest_by_all_filings(job, built, trims)
            least = GREATEST if best is None else price_by_hand(trims, best)
            for price in sorted({-1, 0, 1, 3, 6, 12, least - 1, least, least + 1}):
                told = bar_of(job, built, trims, price)
                self.assertIs(told is None, price > least and best is not None)
                if told is not None:
                    self.assertIs(bar_holds(job, built, trims, price, told), True)
                    self.assertIs(is_bar(job, built, trims, price, told), True)

    def test_a_bar_for_one_more_gap_too(self):
        source = random.Random(125)
        for job, built, trims in random_questions(126, 60, 40):
            best = cheapest_filing(job, built, trims)
            price = 7 if best is None else filing_price(trims, best)
            more = (job[0], job[1] + (random_gap(source, job[0], (1, 2, -3)),))
            self.assertIs(bar_holds(more, built, trims, price, bar_of(job, built, trims, price)), True)

    def test_what_was_told_is_the_askers_own(self):
        self.assert_told_anew(bar_of, JOB, BUILT, TRIMS, 8)
        self.assert_told_anew(bar_of, JOB, BUILT, TRIMS, 0)

    def test_the_same_question_has_the_same_answer(self):
        job, built, trims = many_trims(301)
        self.assert_same_again([
            lambda: trims_of(DRAWING, list(TRIMS)), lambda: is_filing(TRIMS, (2, 1, 0)),
            lambda: filed(BUILT, TRIMS, (2, 1, 0)), lambda: filing_price(TRIMS, (2, 1, 0)),
            lambda: cheapest_filing(JOB, BUILT, TRIMS), lambda: bar_of(JOB, BUILT, TRIMS, 8),
            lambda: bar_of(JOB, BUILT, TRIMS, 9), lambda: bar_holds(JOB, BUILT, TRIMS, 8, BAR),
            lambda: vars(refusal_of(self, cheapest_filing, job, built, trims))])


class TooMany(Asking):
    def test_three_hundred_and_one_more(self):
        job, built, trims = many_trims(300)
        self.assertEqual(self.at_once(cheapest_filing, job, built, trims), (299,))
        self.assertIs(bar_holds(job, built, trims, 299, self.at_once(bar_of, job, built, trims, 299)), True)
        self.assertIsNone(bar_of(job, built, trims, 300))
        job, built, trims = many_trims(301)
        self.assert_refused(TooGreat, {"many": 301, "most": 300}, cheapest_filing, job, built, trims)
        for price in (300, 0, -1, GREATEST):
            self.assert_refused(TooGreat, {"many": 301, "most": 300}, bar_of, job, built, trims, price)

    def test_as_many_as_trims_of_a_drawing_can_be(self):
        three = ((1, 1), (2, 2), (3, 3))
        for sizes, many in [((3, 3, 2, 2, 1), 288), ((1,) * 8, 256), ((3, 3, 3, 3, 0, 0, 0, 0), 256)]:
            drawing = drawing_with([(0, 9)] * len(sizes))
            trims = trims_of(drawing, [three[:size] for size in sizes])
            gap = (tuple((part, 1) for part in range(len(sizes))), 0, 9 * len(sizes) - sum(sizes))
            built = (9,) * len(sizes)
            self.assertEqual(len(filings_of(trims)), many)
            self.assertEqual(self.at_once(cheapest_filing, (drawing, (gap,)), built, trims), sizes)
            bar = self.at_once(bar_of, (drawing, (gap,)), built, trims, sum(sizes))
            self.assertIs(bar_holds((drawing, (gap,)), built, trims, sum(sizes), bar), True)
        for sizes, many in [((3, 2, 2, 2, 2), 324), ((3,) * 8, 65536), ((2, 3, 3, 3, 1), 384)]:
            drawing = drawing_with([(0, 9)] * len(sizes))
            trims = trims_of(drawing, [three[:size] for size in sizes])
            built = (9,) * len(sizes)
            for gap in [(((0, 1),), 0, 99), (((0, 1),), 50, 99)]:
                self.assert_refused(
                    TooGreat, {"many": many, "most": 300}, cheapest_filing, (drawing, (gap,)), built, trims)
                self.assert_refused(TooGreat, {"many": many, "most": 300}, bar_of, (drawing, (gap,)), built, trims, 1)

    def test_bars_of_more_filings_hold_too(self):
        drawing = drawing_with([(0, 9)] * 8)
        trims = trims_of(drawing, [((1, 1), (2, 2), (3, 3))] * 8)
        job = (drawing, ((((0, 1),), 0, 5), (((7, 1),), 6, 6)))
        for thing, told in [([((), ("off", 0))], True), ([((), ("off", 1))], False),
                            ([((number,), ("off", 0)) for number in range(4)], True),
                            ([((number,), ("off", 0)) for number in range(3)], False)]:
            self.assertIs(self.at_once(bar_holds, job, (9,) * 8, trims, 10 ** 20, thing), told)


if __name__ == "__main__":
    unittest.main()
