"""What is promised over the whole program: the interface, and that answers hang on what is asked alone."""

import copy
import importlib
import inspect
import unittest

from asking import Asking
from cases import drawing_with
from gaugewright.boxes import cover_holds, cover_of, matched
from gaugewright.cheapest import cheapest, floor_holds, floor_of
from gaugewright.counter import counter, fitting
from gaugewright.counts import nth, number_of, spread
from gaugewright.cuts import clashes, core, holds, paper_of
from gaugewright.desk import Desk
from gaugewright.drawings import all_sets, drawing_of, first_set, how_many, is_set, narrowed, nearest
from gaugewright.gaps import is_gap
from gaugewright.groups import grouping_holds, grouping_of
from gaugewright.measure import decides, fewest, twins, witness_holds, witness_of
from gaugewright.offers import is_choice, offers_of
from gaugewright.plans import depth, led, plan_holds, plan_of
from gaugewright.reach import reach
from gaugewright.shims import stack_of, table_holds, table_of
from gaugewright.spans import is_span, plus, size_of
from gaugewright.texts import read, shown
from gaugewright.trims import bar_holds, bar_of, cheapest_filing, is_filing, trims_of
from samples import GREATEST

INTERFACE = {
    "spans": "is_span(thing) plus(one, other) hull(one, other) multiplied(one, by) meet(one, other) size_of(one)"
             " inside(one, other)",
    "drawings": "drawing_of(things) is_set(drawing, thing) first_set(drawing) last_set(drawing)"
                " nearest(drawing, numbers) narrowed(drawing, part, span) how_many(drawing) all_sets(drawing)",
    "gaps": "is_gap(drawing, thing) worth_of(gap, one) keeps(gap, one)",
    "reach": "reach(drawing, gap) verdict(drawing, gap) lowest(drawing, gap) highest(drawing, gap)"
             " reached(drawing, gap, number) upward(drawing, gap, number) downward(drawing, gap, number)"
             " slack(drawing, gap)",
    "counter": "counter(job) fitting(job)",
    "cuts": "holds(job, paper) paper_of(job) clashes(job) core(job)",
    "counts": "spread(drawing, gap) kept_count(drawing, gap) share(drawing, gap) nth(drawing, gap, number)"
              " number_of(drawing, gap, thing) middle_worth(drawing, gap) commonest(drawing, gap)",
    "offers": "offers_of(drawing, things) is_choice(offers, thing) price_of(offers, choice)"
              " narrowed_by(drawing, offers, choice) safe(job, offers, choice)",
    "cheapest": "cheapest(job, offers) floor_of(job, offers, price) floor_holds(job, offers, price, thing)",
    "boxes": "is_box(thing) pairs(gap, one, other) matched(gap, one, other) cover_of(gap, one, other)"
             " cover_holds(gap, one, other, thing)",
    "classes": "class_of(limits, number) classes(limits, box) sure(gap, limits, one, other_limits, other)",
    "groups": "grouping_holds(gap, one, other, thing) grouping_of(gap, one, other)",
    "measure": "decides(drawing, gap, parts) twins(drawing, gap, parts) fewest(drawing, gap) witness_of(drawing, gap)"
               " witness_holds(drawing, gap, many, thing)",
    "plans": "depth(plan) led(plan, drawing, one) plan_holds(drawing, gap, thing) plan_of(drawing, gap)",
    "shims": "stack_of(shims, number, span) table_of(shims, number, span)"
             " table_holds(shims, number, span, many, thing)",
    "trims": "trims_of(drawing, things) is_filing(trims, thing) filed(built, trims, filing)"
             " filing_price(trims, filing) cheapest_filing(job, built, trims) bar_of(job, built, trims, price)"
             " bar_holds(job, built, trims, price, thing)",
    "texts": "shown(job) read(text)",
}
ERRORS = {
    "NoSpan": [], "NoPart": [], "NoSet": [], "NoRow": [], "Unlike": [], "NoDrawing": ["number"], "NoGap": ["number"],
    "NoOffer": ["number"], "NoText": ["row"], "TooGreat": ["many", "most"],
}

DRAWING = drawing_with([(0, 4), (0, 4), (0, 2)])
GAP = (((0, 2), (1, -1), (2, 1)), 1, 4)
JOB = (DRAWING, (GAP, (((0, 1),), 0, 2)))
NEVER = (DRAWING, ((((0, 2), (1, 2)), 3, 3), (((0, 2), (1, 2)), 5, 5)))
OFFERS = (((0, 4, 0), (1, 3, 2)), ((0, 4, 0), (2, 4, 1), (2, 3, 2)), ((0, 2, 0), (0, 1, 5)))
TRIMS = (((1, 1), (3, 2)), ((2, 2),), ())
LOOSE = (((0, 1), (1, -1)), 0, 1)


class Interface(unittest.TestCase):
    def test_everything_is_there_under_its_name(self):
        for module, calls in INTERFACE.items():
            found = importlib.import_module("gaugewright." + module)
            for call in calls.replace(") ", ")|").split("|"):
                name, handed = call[:-1].split("(")
                with self.subTest(module=module, name=name):
                    self.assertEqual(list(inspect.signature(vars(found)[name]).parameters), handed.split(", "))
                    self.assertEqual(vars(found)[name].__module__, "gaugewright." + module)

    def test_each_argument_can_be_left_out_of_none(self):
        for module in INTERFACE:
            found = importlib.import_module("gaugewright." + module)
            for name, thing in vars(found).items():
                if inspect.isfunction(thing):
                    for handed in inspect.signature(thing).parameters.values():
                        self.assertIs(handed.default, inspect.Parameter.empty, name)

    def test_errors(self):
        found = importlib.import_module("gaugewright.errors")
        for name, fields in ERRORS.items():
            refused = vars(found)[name](*range(len(fields)))
            self.assertEqual(vars(refused), dict(zip(fields, range(len(fields)))))
            self.assertIsInstance(refused, found.GaugeError)
            self.assertIsInstance(refused, ValueError)

    def test_the_desk(self):
        self.assertEqual(list(inspect.signature(Desk).parameters), [])
        self.assertEqual(list(inspect.signature(Desk().say).parameters), ["row"])


class HandedInAgain(Asking):
    def test_drawings_and_sets(self):
        self.assertEqual(drawing_of(list(drawing_of(list(DRAWING)))), DRAWING)
        for one in all_sets(DRAWING):
            self.assertIs(is_set(DRAWING, one), True)
            self.assertEqual(nearest(DRAWING, one), one)
        self.assertIs(is_set(narrowed(DRAWING, 1, (2, 3)), first_set(narrowed(DRAWING, 1, (2, 3)))), True)

    def test_great_numbers(self):
        wide = drawing_with([(-GREATEST, GREATEST)] * 8)
        ends = reach(wide, (tuple((part, 3) for part in range(8)), 0, 0))
        self.assertIs(is_span(ends), True)
        self.assertEqual(size_of(plus(ends, ends)), 96 * GREATEST + 1)
        last = wide[:7] + (("h", 0, 1),)
        gap = (((7, 1),), 1, 1)
        many = how_many(last) // 2 - 1
        self.assertEqual(number_of(last, gap, nth(last, gap, many)), many)

    def test_papers(self):
        paper = paper_of(NEVER)
        self.assertIs(holds(NEVER, paper), True)
        self.assertIs(holds(NEVER, ("cut", 2, 0, paper, paper)), True)
        deep = ((("a", 0, 299),), ((((0, 2),), 301, 301),))
        self.assertIs(self.at_once(holds, deep, paper_of(deep)), True)

    def test_papers_of_prices(self):
        floor = floor_of(JOB, OFFERS, 3)
        self.assertIs(floor_holds(JOB, OFFERS, 3, floor), True)
        self.assertIs(is_choice(OFFERS, cheapest((DRAWING, ((((1, 1),), 2, 4),)), OFFERS)), True)
        self.assertEqual(offers_of(DRAWING, list(offers_of(DRAWING, list(OFFERS)))), OFFERS)
        bar = bar_of(JOB, (4, 0, 2), TRIMS, 2)
        self.assertIs(bar_holds(JOB, (4, 0, 2), TRIMS, 2, bar), True)
        self.assertIs(is_filing(TRIMS, cheapest_filing(JOB, (4, 0, 2), TRIMS)), True)
        self.assertEqual(trims_of(DRAWING, list(trims_of(DRAWING, list(TRIMS)))), TRIMS)

    def test_papers_of_boxes_measures_and_shims(self):
        self.assertIs(cover_holds(LOOSE, (5, 4), (4, 5), cover_of(LOOSE, (5, 4), (4, 5))), True)
        self.assertIs(grouping_holds(LOOSE, (5, 4), (4, 5), grouping_of(LOOSE, (5, 4), (4, 5))), True)
        witness = witness_of(DRAWING, GAP)
        self.assertIs(witness_holds(DRAWING, GAP, len(fewest(DRAWING, GAP)), witness), True)
        self.assertIs(decides(DRAWING, GAP, fewest(DRAWING, GAP)), True)
        plan = plan_of(DRAWING, GAP)
        self.assertIs(plan_holds(DRAWING, GAP, plan), True)
        self.assertLessEqual(len(led(plan, DRAWING, first_set(DRAWING))[0]), depth(plan))
        table = table_of((1,), 0, (200, 200))
        self.assertEqual(len(table), 200)
        self.assertIs(table_holds((1,), 0, (200, 200), 200, table), True)

    def test_jobs(self):
        told = read(shown(JOB))
        self.assertEqual(told, JOB)
        self.assertTrue(all(is_gap(told[0], gap) for gap in told[1]))
        desk = Desk()
        for row in shown(JOB).split("\n"):
            self.assertEqual(desk.say(row), "ok")
        self.assertEqual(desk.say("job").replace(" ; ", "\n"), shown(JOB))


class AlwaysTheSame(Asking):
    def test_whatever_was_asked_in_between(self):
        desk = Desk()
        for row in shown(JOB).split("\n"):
            desk.say(row)
        self.assert_same_again([
            lambda: all_sets(DRAWING), lambda: spread(DRAWING, GAP), lambda: counter(JOB), lambda: fitting(JOB),
            lambda: clashes(NEVER), lambda: core(NEVER), lambda: paper_of(NEVER), lambda: floor_of(JOB, OFFERS, 3),
            lambda: matched(LOOSE, (5, 4), (4, 5)), lambda: grouping_of(LOOSE, (5, 4), (4, 5)),
            lambda: twins(DRAWING, GAP, ()), lambda: witness_of(DRAWING, GAP), lambda: plan_of(DRAWING, GAP),
            lambda: stack_of((2, 5), 0, (9, 9)), lambda: table_of((2, 5), 0, (9, 9)),
            lambda: bar_of(JOB, (4, 0, 2), TRIMS, 2), lambda: read(shown(JOB)), lambda: desk.say("counter")])

    def test_no_file_keeps_what_was_asked(self):
        modules = [importlib.import_module("gaugewright." + module) for module in list(INTERFACE) + ["desk", "kinds"]]
        kept = [copy.deepcopy({name: thing for name, thing in vars(module).items() if name.isupper()})
                for module in modules]
        self.test_whatever_was_asked_in_between()
        for module, ahead in zip(modules, kept):
            self.assertEqual({name: thing for name, thing in vars(module).items() if name.isupper()}, ahead)


if __name__ == "__main__":
    unittest.main()
