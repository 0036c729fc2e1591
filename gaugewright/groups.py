"""Groupings of two boxes with as many pieces: lists of how many pieces each group takes from both rows."""

from gaugewright.boxes import all_fit
from gaugewright.errors import Unlike
from gaugewright.kinds import is_whole


def grouping_holds(gap, one, other, thing):
    rows = rows_of(gap, one, other)
    if not is_grouping(len(one), thing):
        return False
    begin = 0
    for size in thing:
        if not group_fits(gap, rows, begin, size):
            return False
        begin = begin + size
    return True


def rows_of(gap, one, other):
    if len(one) != len(other):
        raise Unlike()
    # Which of the pieces with like numbers goes first is no matter here: numbers alone tell what fits.
    if just_one_below_nought(gap[0]):
        return (sorted(one), sorted(other))
    return (sorted(one), sorted(other, reverse=True))


def just_one_below_nought(terms):
    return len([times for part, times in terms if times < 0]) == 1


def is_grouping(pieces, thing):
    if not isinstance(thing, list) or not all([is_whole(size) and size >= 1 for size in thing]):
        return False
    return sum(thing) == pieces


def group_fits(gap, rows, begin, size):
    return all_fit(gap, rows[0][begin:begin + size], rows[1][begin:begin + size])


def grouping_of(gap, one, other):
    rows = rows_of(gap, one, other)
    # The first is of the pieces looked at so far, from the rows' ends on; each further one is of one piece less.
    groupings = [[]]
    for begin in range(len(one) - 1, -1, -1):
        groupings.insert(0, least_grouping(gap, rows, begin, groupings))
    return groupings[0]


def least_grouping(gap, rows, begin, behind):
    found = []
    for size, further in enumerate(behind, start=1):
        if further is not None and group_fits(gap, rows, begin, size):
            found.append([size] + further)
    # They come with rising first sizes, so the first one of the fewest groups is the least list.
    return min(found, key=len, default=None)
