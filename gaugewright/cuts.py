"""Papers of cuts, which show that no set keeps a job; and which of its gaps go ill together."""

from gaugewright.counter import fitting, kept_gaps
from gaugewright.drawings import all_sets, narrowed, span_of
from gaugewright.gaps import wanted_of
from gaugewright.kinds import is_whole
from gaugewright.reach import reach
from gaugewright.spans import meet, size_of


def holds(job, paper):
    # A list of what is left to look through, as papers may be deeper than calls can go.
    left = [(job[0], paper)]
    while left:
        asked = left.pop()
        drawing = asked[0]
        thing = asked[1]
        if is_cut(drawing, thing):
            left.append((above_cut(drawing, thing[1], thing[2]), thing[4]))
            left.append((below_cut(drawing, thing[1], thing[2]), thing[3]))
        elif not is_miss(drawing, job[1], thing):
            return False
    return True


def is_cut(drawing, thing):
    if not isinstance(thing, tuple) or len(thing) != 5 or thing[0] != "cut":
        return False
    if not is_whole(thing[1]) or not is_whole(thing[2]) or not 0 <= thing[1] < len(drawing):
        return False
    span = span_of(drawing[thing[1]])
    return span[0] <= thing[2] < span[1]


def is_miss(drawing, gaps, thing):
    if not isinstance(thing, tuple) or len(thing) != 2 or thing[0] != "gap":
        return False
    return is_whole(thing[1]) and 0 <= thing[1] < len(gaps) and misses(drawing, gaps[thing[1]])


def misses(drawing, gap):
    return meet(reach(drawing, gap), wanted_of(gap)) is None


def below_cut(drawing, part, at):
    return narrowed(drawing, part, (drawing[part][1], at))


def above_cut(drawing, part, at):
    return narrowed(drawing, part, (at + 1, drawing[part][2]))


def paper_of(job):
    return paper_within(job[0], job[1]) if fitting(job) is None else None


def paper_within(drawing, gaps):
    for number, gap in enumerate(gaps):
        if misses(drawing, gap):
            return ("gap", number)
    part = widest(drawing)
    at = sum(span_of(drawing[part])) // 2
    below = paper_within(below_cut(drawing, part, at), gaps)
    above = paper_within(above_cut(drawing, part, at), gaps)
    return ("cut", part, at, below, above)


def widest(drawing):
    sizes = [size_of(span_of(part)) for part in drawing]
    return sizes.index(max(sizes))


def clashes(job):
    kept = kept_by_sets(job)
    found = []
    for pair in choices_of(len(job[1]), 2):
        alone = some_set_keeps(kept, pair[:1]) and some_set_keeps(kept, pair[1:])
        if alone and not some_set_keeps(kept, pair):
            found.append(pair)
    return found


def core(job):
    kept = kept_by_sets(job)
    for many in range(1, len(job[1]) + 1):
        for numbers in choices_of(len(job[1]), many):
            # With fewer gaps all were kept by some set, so none of these can be left out.
            if not some_set_keeps(kept, numbers):
                return numbers
    return None


def kept_by_sets(job):
    return [kept_gaps(job[1], one) for one in all_sets(job[0])]


def some_set_keeps(kept, numbers):
    for row in kept:
        if all([row[number] for number in numbers]):
            return True
    return False


def choices_of(size, many):
    choices = [()]
    for step in range(many):
        choices = each_with_one_more(choices, size)
    return choices


def each_with_one_more(choices, size):
    longer = []
    for choice in choices:
        first = choice[-1] + 1 if choice else 0
        for number in range(first, size):
            longer.append(choice + (number,))
    return longer
