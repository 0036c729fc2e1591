"""Plans: which part to measure first, and which one next by what was measured, until it is known what a set does."""

from gaugewright.drawings import all_sets, refuse_too_many_sets, span_of
from gaugewright.gaps import keeps
from gaugewright.kinds import is_whole
from gaugewright.spans import size_of

KEEPS = ("keeps",)
BREAKS = ("breaks",)


def depth(plan):
    deepest = 0
    left = [(plan, 0)]
    while left:
        asked = left.pop()
        deepest = max(deepest, asked[1])
        if asked[0][0] == "measure":
            left.extend([(further, asked[1] + 1) for further in unlike_ones(asked[0][2])])
    return deepest


def unlike_ones(plans):
    # A plan may be the same for many numbers; walked for each of them anew it would take far too long.
    found = []
    for plan in plans:
        if plan not in found:
            found.append(plan)
    return found


def led(plan, drawing, one):
    parts = []
    at = plan
    while at[0] == "measure":
        part = at[1]
        parts.append(part)
        at = at[2][one[part] - drawing[part][1]]
    return (parts, at[0])


def plan_holds(drawing, gap, thing):
    sets = all_sets(drawing)
    if not is_plan(drawing, thing):
        return False
    return all([(led(thing, drawing, one)[1] == "keeps") == keeps(gap, one) for one in sets])


def is_plan(drawing, thing):
    left = [(thing, ())]
    while left:
        asked = left.pop()
        plan = asked[0]
        measured = asked[1]
        if is_measure(drawing, plan) and plan[1] not in measured:
            left.extend([(further, measured + (plan[1],)) for further in plan[2]])
        elif plan != KEEPS and plan != BREAKS:
            return False
    return True


def is_measure(drawing, thing):
    if not isinstance(thing, tuple) or len(thing) != 3 or thing[0] != "measure":
        return False
    if not is_whole(thing[1]) or not 0 <= thing[1] < len(drawing):
        return False
    return isinstance(thing[2], tuple) and len(thing[2]) == size_of(span_of(drawing[thing[1]]))


def plan_of(drawing, gap):
    refuse_too_many_sets(drawing)
    return Planner(drawing, gap).least(gap[0], 0)[1]


# Finds tuples (depth, plan), by the terms whose parts are not measured yet and what the others come to.
class Planner:
    def __init__(self, drawing, gap):
        self.drawing = drawing
        self.gap = gap
        self.known = {}

    def least(self, terms, worth):
        # Many orders of measuring come to the same terms and worth.
        if (terms, worth) not in self.known:
            self.known[(terms, worth)] = self.best(terms, worth)
        return self.known[(terms, worth)]

    def best(self, terms, worth):
        if not terms:
            return (0, KEEPS if self.gap[1] <= worth <= self.gap[2] else BREAKS)
        return min([self.measuring(terms, place, worth) for place in range(len(terms))], key=lambda plan: plan[0])

    def measuring(self, terms, place, worth):
        part = terms[place][0]
        span = span_of(self.drawing[part])
        others = terms[:place] + terms[place + 1:]
        worths = [worth + terms[place][1] * number for number in range(span[0], span[1] + 1)]
        found = [self.least(others, each) for each in worths]
        deepest = max([further[0] for further in found])
        # Where the same plan follows on each number, this part need not be measured for it.
        if all([further == found[0] for further in found]):
            return found[0]
        return (deepest + 1, ("measure", part, tuple([further[1] for further in found])))
