"""Small drawings, gaps and jobs, and what a walk through all sets finds of them; long ones for the same questions."""

import itertools
import random

from samples import GREATEST

NAMES = "abcdefgh"
TIMES = (-3, -2, -1, 1, 2, 3)
# Of 2 alone, of 3 alone and of both alone not each number of a reach is a worth.
POOLS = (TIMES, (2,), (-2, 2), (3,), (-3, 3), (2, 3), (-3, -2, 2, 3), (-1, 1), (1, 3), (-1, -3), (1, 2))


def drawing_with(spans):
    return tuple((name,) + tuple(span) for name, span in zip(NAMES, spans))


def sets_of(drawing):
    return list(itertools.product(*[range(low, high + 1) for name, low, high in drawing]))


def worth(gap, one):
    return sum(times * one[part] for part, times in gap[0])


def is_kept(gap, one):
    return gap[1] <= worth(gap, one) <= gap[2]


def first_sets_by_worth(drawing, gap):
    found = {}
    for one in sets_of(drawing):
        found.setdefault(worth(gap, one), one)
    return found


def ends_of(drawing, gap):
    least = sum(min(times * drawing[part][1], times * drawing[part][2]) for part, times in gap[0])
    greatest = sum(max(times * drawing[part][1], times * drawing[part][2]) for part, times in gap[0])
    return (least, greatest)


def always_kept(drawing, gap):
    least, greatest = ends_of(drawing, gap)
    return gap[1] <= least and greatest <= gap[2]


def with_wanted(gap, low, high):
    return (gap[0], low, high)


def turned(gap):
    return (tuple((part, -times) for part, times in gap[0]), -gap[2], -gap[1])


def each_small_gap():
    """All times of one and two parts, some of three and four, each with no span wanted yet but (0, 0)."""
    for size in range(1, 6):
        for times in TIMES:
            yield drawing_with([(-2, size - 3)]), (((0, times),), 0, 0)
    for sizes in [(1, 3), (2, 2), (2, 4), (4, 2), (5, 1), (3, 6)]:
        drawing = drawing_with([(-1, sizes[0] - 2), (3, sizes[1] + 2)])
        for times in itertools.product(TIMES, repeat=2):
            yield drawing, (tuple(enumerate(times)), 0, 0)
        for part, times in itertools.product((0, 1), TIMES):
            yield drawing, (((part, times),), 0, 0)
    yield from random_gaps(1, 250)


def random_gaps(seed, many):
    source = random.Random(seed)
    for step in range(many):
        drawing = random_drawing(source, 300)
        yield drawing, random_gap(source, drawing, source.choice(POOLS))


def random_drawing(source, most):
    while True:
        lows = [source.randint(-4, 4) for step in range(source.randint(1, 5))]
        drawing = drawing_with([(low, low + source.choice((0, 0, 1, 1, 2, 3, 5, 8))) for low in lows])
        if len(sets_of(drawing)) <= most:
            return drawing


def random_gap(source, drawing, pool):
    parts = sorted(source.sample(range(len(drawing)), source.randint(1, len(drawing))))
    gap = (tuple((part, source.choice(pool)) for part in parts), 0, 0)
    least, greatest = ends_of(drawing, gap)
    low = source.randint(least - 2, greatest + 2)
    return with_wanted(gap, low, low + source.choice((0, 0, 1, 2, 4, greatest - least, greatest - least + 2)))


def random_jobs(seed, many):
    source = random.Random(seed)
    for step in range(many):
        drawing = random_drawing(source, 120)
        pool = source.choice(POOLS)
        yield drawing, tuple(random_gap(source, drawing, pool) for gap in range(source.randint(1, 6)))


def random_offers(source, drawing, most):
    """Offers of each part, so that there are no more choices than told."""
    while True:
        offers = tuple(random_offers_of(source, part) for part in drawing)
        if len(choices_of(offers)) <= most:
            return offers


def random_offers_of(source, part):
    offers = [(part[1], part[2], 0)]
    for step in range(source.randint(0, 3)):
        low, high, price = offers[-1]
        inner = sorted((source.randint(low, high), source.randint(low, high)))
        if inner != [low, high]:
            offers.append((inner[0], inner[1], price + source.randint(1, 4)))
    return tuple(offers)


def choices_of(offers):
    return list(itertools.product(*[range(len(of_part)) for of_part in offers]))


def drawing_by(drawing, offers, choice):
    spans = [of_part[number][:2] for of_part, number in zip(offers, choice)]
    return tuple((part[0],) + span for part, span in zip(drawing, spans))


def is_safe(job, offers, choice):
    return all(is_kept(gap, one) for one in sets_of(drawing_by(job[0], offers, choice)) for gap in job[1])


def long_spans():
    return [
        (-GREATEST, GREATEST), (0, GREATEST), (-GREATEST, 0), (GREATEST, GREATEST), (-GREATEST, 1 - GREATEST),
        (7, 10 ** 30), (-10 ** 59, 10 ** 20 + 1), (3, 5), (0, 0), (-1, 0)]


def long_gaps(seed, many):
    source = random.Random(seed)
    for step in range(many):
        drawing = drawing_with([source.choice(long_spans()) for part in range(source.randint(1, 8))])
        gap = random_gap(source, drawing, source.choice(POOLS))
        # The span wanted is one of numbers, too.
        low = max(-GREATEST, min(gap[1], GREATEST))
        yield drawing, with_wanted(gap, low, max(low, min(gap[2], GREATEST)))
