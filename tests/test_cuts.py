import itertools
import random
import unittest

from asking import Asking, refusal_of
from cases import drawing_with, ends_of, is_kept, random_gap, random_jobs, sets_of
from gaugewright.counter import fitting
from gaugewright.cuts import clashes, core, holds, paper_of
from gaugewright.drawings import how_many
from gaugewright.errors import TooGreat
from samples import GREATEST, deep_list, deep_tuple, nested_things, no_whole_numbers, whatever

WIDE = (-GREATEST, GREATEST)
PAIR = (("a", 0, 3), ("b", 10, 12))
# Twice a is never 3, and b is not above 12: so the second gap alone needs no cut.
JOB = (PAIR, ((((0, 2),), 3, 3), (((1, 1),), 13, 20)))
CUT = ("cut", 0, 1, ("gap", 0), ("gap", 0))


def is_paper(drawing, gaps, thing):
    """The words of the document once more, call within call, for papers of a form that is in order."""
    if thing[0] == "gap":
        least, greatest = ends_of(drawing, gaps[thing[1]])
        return least > gaps[thing[1]][2] or greatest < gaps[thing[1]][1]
    word, part, at, below, above = thing
    name, low, high = drawing[part]
    if at not in range(low, high + 1) or at + 1 not in range(low, high + 1):
        return False
    parted = [drawing[:part] + ((name,) + span,) + drawing[part + 1:] for span in ((low, at), (at + 1, high))]
    return is_paper(parted[0], gaps, below) and is_paper(parted[1], gaps, above)


def random_paper(source, drawing, gaps, deep):
    if deep == 0 or source.random() < 0.3:
        return ("gap", source.randrange(len(gaps)))
    part = source.randrange(len(drawing))
    at = source.randint(drawing[part][1] - 1, drawing[part][2])
    return ("cut", part, at, random_paper(source, drawing, gaps, deep - 1),
            random_paper(source, drawing, gaps, deep - 1))


def some_keep(job, numbers):
    return any(all(is_kept(job[1][number], one) for number in numbers) for one in sets_of(job[0]))


def cuts_above(many):
    """Cuts, one within the other's above: at 0, at 1 and so on."""
    paper = ("gap", 0)
    for at in reversed(range(many)):
        paper = ("cut", 0, at, ("gap", 0), paper)
    return paper


def cuts_below(many):
    paper = ("gap", 0)
    for at in range(many):
        paper = ("cut", 0, at, paper, ("gap", 0))
    return paper


class Holds(Asking):
    def test_gaps(self):
        self.assertIs(holds(JOB, ("gap", 1)), True)
        self.assertIs(holds(JOB, ("gap", 0)), False)
        drawing = (("a", 2, 5),)
        for low, high, told in [(6, 9, True), (5, 9, False), (0, 1, True), (0, 2, False), (3, 4, False), (0, 9, False)]:
            self.assertIs(holds((drawing, ((((0, 1),), low, high),)), ("gap", 0)), told)
            self.assertIs(holds((drawing, ((((0, -1),), -high, -low),)), ("gap", 0)), told)

    def test_cuts(self):
        self.assertIs(holds(JOB, CUT), True)
        self.assertIs(holds(JOB, ("cut", 0, 0, ("gap", 0), ("gap", 0))), False)
        self.assertIs(holds(JOB, ("cut", 0, 2, ("gap", 0), ("gap", 0))), False)
        self.assertIs(holds(JOB, ("cut", 1, 10, CUT, CUT)), True)
        self.assertIs(holds(JOB, ("cut", 1, 11, ("gap", 1), CUT)), True)
        self.assertIs(holds(JOB, ("cut", 0, 0, CUT, ("gap", 0))), False)
        self.assertIs(holds(JOB, ("cut", 0, 0, ("gap", 0), CUT)), True)
        self.assertIs(holds(JOB, ("cut", 0, 2, CUT, ("gap", 0))), True)

    def test_at_and_the_number_behind_it_are_of_the_span(self):
        for at in range(-3, 8):
            self.assertIs(holds(JOB, ("cut", 0, at, ("gap", 1), ("gap", 1))), 0 <= at <= 2)
        for at in range(7, 16):
            self.assertIs(holds(JOB, ("cut", 1, at, ("gap", 1), ("gap", 1))), 10 <= at <= 11)
        one = ((("a", 4, 4),), ((((0, 1),), 5, 5),))
        self.assertIs(holds(one, ("gap", 0)), True)
        for at in (3, 4, 5):
            self.assertIs(holds(one, ("cut", 0, at, ("gap", 0), ("gap", 0))), False)

    def test_a_cut_narrows_for_the_papers_within(self):
        within = ("cut", 0, 2, ("gap", 1), ("gap", 1))
        self.assertIs(holds(JOB, ("cut", 0, 1, ("gap", 0), within)), True)
        self.assertIs(holds(JOB, ("cut", 0, 1, within, ("gap", 0))), False)
        self.assertIs(holds(JOB, ("cut", 0, 2, ("gap", 1), within)), False)

    def test_one_thing_otherwise(self):
        for thing in [
            ("gap",), ("gap", 1, 1), ("gap", 2), ("gap", -1), ("gap", -2), ("gap", "1"), ("gap", (1,)), ("Gap", 1),
            ("gaps", 1), ("cut", 1), (1, "gap"), ["gap", 1], {"gap": 1}, "gap", ("gap", True), ("gap", 10 ** 80), (),
            list(CUT), CUT + (1,), CUT[:4], ("gap",) + CUT[1:], ("Cut",) + CUT[1:], (("cut",),) + CUT[1:],
            ("cut", 2, 1) + CUT[3:], ("cut", -2, 1) + CUT[3:], ("cut", -1, 10, ("gap", 1), ("gap", 1)),
            ("cut", False, 1) + CUT[3:], ("cut", 0, True) + CUT[3:], ("cut", "a", 1) + CUT[3:],
            ("cut", 0, (1, 2)) + CUT[3:], ("cut", 10 ** 80, 1) + CUT[3:], ("cut", 0, 10 ** 80) + CUT[3:],
            ("cut", 0, 1, ("gap", 0)), ("cut", 0, 1, [("gap", 0), ("gap", 0)]), ("cut", 0, 1, ["gap", 0], ("gap", 0)),
            ("cut", 0, 1, ("gap", 0), ["gap", 0]), ("cut", 0, 1, None, ("gap", 0)), ("cut", 0, 1, ("gap", 0), None),
            (CUT,), [CUT], ("cut", 0, 1, CUT, CUT),
        ]:
            self.assertIs(holds(JOB, thing), False, thing)

    def test_truths_are_no_numbers(self):
        drawing = (("a", 0, 1), ("b", 0, 1))
        job = (drawing, ((((0, 1),), 5, 5), (((0, 1),), 5, 5)))
        for number in (0, 1):
            self.assertIs(holds(job, ("gap", number)), True)
            self.assertIs(holds(job, ("gap", bool(number))), False)
            self.assertIs(holds(job, ("cut", number, 0, ("gap", 0), ("gap", 0))), True)
            self.assertIs(holds(job, ("cut", bool(number), 0, ("gap", 0), ("gap", 0))), False)
        self.assertIs(holds(job, ("cut", 0, False, ("gap", 0), ("gap", 0))), False)

    def test_whatever(self):
        for thing in whatever():
            for paper in [thing, (thing, 1), (thing, 0, 1, ("gap", 0), ("gap", 0)), ("cut", 0, 1, thing, ("gap", 0)),
                          ("cut", 0, 1, ("gap", 0), thing)]:
                self.assertIs(holds(JOB, paper), False)
        for thing in no_whole_numbers() + [deep_tuple(1, 198), deep_list(1, 198)]:
            for paper in [("gap", thing), ("cut", thing, 1) + CUT[3:], ("cut", 0, thing) + CUT[3:]]:
                self.assertIs(holds(JOB, paper), False)

    def test_cuts_one_within_the_other(self):
        for many in (150, 199, 5000):
            job = ((("a", 0, many),), ((((0, 2),), 1, 1),))
            for paper in [cuts_above(many), cuts_below(many)]:
                self.assertIs(self.at_once(holds, job, paper), True)
            for paper in [cuts_above(many + 1), cuts_below(many + 1)]:
                self.assertIs(self.at_once(holds, job, paper), False)
            self.assertIs(holds(((("a", 0, many),), ((((0, 2),), 0, 1),)), cuts_above(many)), False)

    def test_deep_cuts_with_one_thing_otherwise(self):
        job = ((("a", 0, 150),), ((((0, 2),), 1, 1),))
        for inner in [None, (), "gap", ("gap", 1), ("gap", True), ["gap", 0], ("cut", 0, 150, ("gap", 0), ("gap", 0))]:
            paper = inner
            for at in reversed(range(150)):
                paper = ("cut", 0, at, ("gap", 0), paper)
            self.assertIs(holds(job, paper), False)

    def test_against_the_words_once_more(self):
        source = random.Random(21)
        seen = {True: 0, False: 0}
        for job in random_jobs(22, 400):
            for step in range(6):
                paper = random_paper(source, job[0], job[1], 4)
                told = holds(job, paper)
                self.assertIs(told, is_paper(job[0], job[1], paper))
                seen[told] += 1
        self.assertGreater(min(seen.values()), 100)

    def test_long_spans(self):
        drawing = drawing_with([WIDE, WIDE, (0, 0)])
        job = (drawing, ((((0, 2), (1, 1)), -GREATEST, GREATEST), (((0, 2),), 1, 1), (((2, 3),), 1, GREATEST)))
        self.assertIs(holds(job, ("gap", 2)), True)
        self.assertIs(holds(job, ("gap", 1)), False)
        self.assertIs(self.at_once(holds, job, ("cut", 0, 0, ("gap", 1), ("gap", 1))), True)
        self.assertIs(holds(job, ("cut", 0, 1, ("gap", 1), ("gap", 1))), False)
        self.assertIs(holds(job, ("cut", 1, GREATEST - 1, ("gap", 2), ("gap", 2))), True)
        self.assertIs(holds(job, ("cut", 1, GREATEST, ("gap", 2), ("gap", 2))), False)
        self.assertIs(holds(job, ("cut", 1, -GREATEST, ("gap", 2), ("gap", 2))), True)
        self.assertIs(holds(job, ("cut", 1, -GREATEST - 1, ("gap", 2), ("gap", 2))), False)

    def test_no_paper_for_what_some_set_keeps(self):
        source = random.Random(23)
        for job in random_jobs(24, 300):
            if fitting(job) is not None:
                for step in range(4):
                    self.assertIs(holds(job, random_paper(source, job[0], job[1], 5)), False)

    def test_what_was_handed_in_stays(self):
        for thing in [["cut", 0, 1, ["gap", 0], ["gap", 0]], ("cut", 0, 1, ["gap", [0]], {"gap": [0]})]:
            self.assert_unchanged(holds, JOB, thing)


class PaperOf(Asking):
    def test_by_hand(self):
        self.assertIs(holds(JOB, paper_of(JOB)), True)
        self.assertIsNone(paper_of((PAIR, ((((0, 2),), 3, 4),))))
        self.assertIsNone(paper_of((PAIR, ((((0, 1),), 0, 9), (((1, 1),), 12, 12)))))

    def test_just_where_no_set_keeps_the_job(self):
        seen = 0
        for job in random_jobs(25, 400):
            paper = paper_of(job)
            self.assertIs(paper is None, some_keep(job, range(len(job[1]))))
            if paper is not None:
                seen += 1
                self.assertIs(holds(job, paper), True)
                self.assertIs(is_paper(job[0], job[1], paper), True)
        self.assertGreater(seen, 100)

    def test_further_gaps_behind_the_others(self):
        source = random.Random(26)
        for job in random_jobs(27, 150):
            paper = paper_of((job[0], job[1][:3]))
            if paper is not None:
                more = (random_gap(source, job[0], (1, 2)), random_gap(source, job[0], (-3, 3)))
                self.assertIs(holds((job[0], job[1][:3] + more), paper), True)

    def test_three_hundred_sets(self):
        for drawing in [drawing_with([(0, 299)]), drawing_with([(-7, 7), (1, 20)]), drawing_with([(0, 1)] * 8),
                        drawing_with([(0, 2)] * 5), drawing_with([(GREATEST - 299, GREATEST)])]:
            terms = tuple((part, 2) for part in range(len(drawing)))
            least, greatest = ends_of(drawing, (terms, 0, 0))
            for middle in (least + 1, (least + greatest) // 2 | 1, greatest - 1):
                job = (drawing, ((terms, middle, middle),))
                paper = self.at_once(paper_of, job)
                self.assertIs(self.at_once(holds, job, paper), True)

    def test_more_than_three_hundred_sets(self):
        for gaps in [((((0, 1),), 999, 999),), ((((0, 1),), 0, 999),)]:
            for ask in [paper_of, clashes, core]:
                self.assert_refused(TooGreat, {"many": 301, "most": 300}, ask, ((("a", 0, 300),), gaps))
                for drawing in [drawing_with([(1, 16), (1, 19)]), drawing_with([WIDE] * 8)]:
                    fields = {"many": how_many(drawing), "most": 300}
                    self.assert_refused(TooGreat, fields, ask, (drawing, gaps))


class ClashesAndCore(Asking):
    def test_by_hand(self):
        drawing = (("a", 0, 9),)
        low, middle, high, never = (((0, 1),), 0, 3), (((0, 1),), 3, 6), (((0, 1),), 5, 9), (((0, 2),), 1, 1)
        self.assertEqual(clashes((drawing, (low, middle, high))), [(0, 2)])
        self.assertEqual(core((drawing, (low, middle, high))), (0, 2))
        self.assertEqual(clashes((drawing, (low, never, high))), [(0, 2)])
        self.assertEqual(core((drawing, (low, never, high))), (1,))
        self.assertEqual(clashes((drawing, (low, low, high, high))), [(0, 2), (0, 3), (1, 2), (1, 3)])
        self.assertEqual(core((drawing, (low, low, high, high))), (0, 2))
        self.assertEqual(clashes((drawing, (low, middle))), [])
        self.assertIsNone(core((drawing, (low, middle))))
        self.assertEqual(clashes((drawing, (never,))), [])
        self.assertEqual(core((drawing, (never, never))), (0,))

    def test_a_core_of_three_without_a_clash(self):
        drawing = drawing_with([(0, 1)] * 3)
        gaps = ((((0, 1), (1, 1)), 1, 1), (((1, 1), (2, 1)), 1, 1), (((0, 1), (2, 1)), 1, 1))
        self.assertEqual(clashes((drawing, gaps)), [])
        self.assertEqual(core((drawing, gaps)), (0, 1, 2))
        easy = (((0, 1),), 0, 1)
        self.assertEqual(core((drawing, (easy, gaps[0], easy, gaps[1], gaps[2], easy))), (1, 3, 4))
        self.assertEqual(core((drawing, (easy, gaps[0], gaps[0], gaps[1], gaps[2]))), (1, 3, 4))

    def test_against_all_sets(self):
        seen = {None: 0, 1: 0, 2: 0, 3: 0}
        for job in random_jobs(28, 400):
            many = len(job[1])
            pairs = [(g, h) for g, h in itertools.combinations(range(many), 2)
                     if some_keep(job, [g]) and some_keep(job, [h]) and not some_keep(job, [g, h])]
            self.assertEqual(clashes(job), pairs)
            told = core(job)
            found = [numbers for size in range(1, many + 1) for numbers in itertools.combinations(range(many), size)
                     if not some_keep(job, numbers)]
            self.assertEqual(told, found[0] if found else None)
            if told is not None:
                self.assertTrue(all(some_keep(job, [number for number in told if number != left]) for left in told))
            size = None if told is None else min(len(told), 3)
            seen[size] += 1
        self.assertGreater(min(seen.values()), 0, seen)

    def test_three_hundred_sets(self):
        drawing = drawing_with([(0, 19), (0, 14)])
        gaps = tuple((((0, 1), (1, -1)), low, low + 9) for low in (-14, -4, 1, 6, 8, 10))
        self.assertEqual(self.at_once(core, (drawing, gaps)), (0, 1))
        self.assertEqual(self.at_once(clashes, (drawing, gaps)),
                         [(0, 1), (0, 2), (0, 3), (0, 4), (0, 5), (1, 3), (1, 4), (1, 5)])

    def test_what_was_told_is_the_askers_own(self):
        drawing = (("a", 0, 9),)
        self.assert_told_anew(clashes, (drawing, ((((0, 1),), 0, 3), (((0, 1),), 5, 9))))
        self.assert_told_anew(clashes, (drawing, ((((0, 1),), 0, 3),)))

    def test_the_same_question_has_the_same_answer(self):
        wide = (drawing_with([WIDE]), ((((0, 1),), 0, 0),))
        self.assert_same_again([
            lambda: paper_of(JOB), lambda: clashes(JOB), lambda: core(JOB), lambda: holds(JOB, CUT),
            lambda: holds(JOB, CUT[:4]), lambda: vars(refusal_of(self, paper_of, wide)),
            lambda: [holds(JOB, thing) for thing in nested_things()]])


if __name__ == "__main__":
    unittest.main()
