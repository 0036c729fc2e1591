"""Spans: tuples (low, high) of two whole numbers, low no greater than high."""

from gaugewright.kinds import is_whole


def is_span(thing):
    if not isinstance(thing, tuple) or len(thing) != 2:
        return False
    return is_whole(thing[0]) and is_whole(thing[1]) and thing[0] <= thing[1]


def plus(one, other):
    return (one[0] + other[0], one[1] + other[1])


def meet(one, other):
    low = max(one[0], other[0])
    high = min(one[1], other[1])
    return (low, high) if low <= high else None


def hull(one, other):
    return (min(one[0], other[0]), max(one[1], other[1]))


def inside(one, other):
    return other[0] <= one[0] and one[1] <= other[1]


def multiplied(one, by):
    # Taken a number of times below nought, the high end becomes the low one.
    ends = (one[0] * by, one[1] * by)
    return (min(ends), max(ends))


def size_of(one):
    return one[1] - one[0] + 1
