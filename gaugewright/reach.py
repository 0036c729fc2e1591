"""Which worths a gap has in a drawing: the ends of its reach, the numbers between them, and sets that bring them."""

from gaugewright.drawings import first_set, span_of
from gaugewright.gaps import wanted_of
from gaugewright.spans import inside, multiplied, plus, size_of

MOST_TRIES = 5


def reach(drawing, gap):
    return reach_of_terms(drawing, gap[0])


def reach_of_terms(drawing, terms):
    ends = (0, 0)
    for part, times in terms:
        ends = plus(ends, multiplied(span_of(drawing[part]), times))
    return ends


def verdict(drawing, gap):
    if inside(reach(drawing, gap), wanted_of(gap)):
        return "always"
    least = upward(drawing, gap, gap[1])
    return "never" if least is None or least > gap[2] else "sometimes"


def lowest(drawing, gap):
    return reached(drawing, gap, reach(drawing, gap)[0])


def highest(drawing, gap):
    return reached(drawing, gap, reach(drawing, gap)[1])


def slack(drawing, gap):
    ends = reach(drawing, gap)
    return (ends[0] - gap[1], gap[2] - ends[1])


def upward(drawing, gap, number):
    ends = reach(drawing, gap)
    if number > ends[1]:
        return None
    steps = steps_of(drawing, gap[0])
    worth = max(number, ends[0])
    # The reach's end is a worth, and within the reach one of any three numbers in a row is.
    while not can_rise(steps, worth - ends[0]):
        worth = worth + 1
    return worth


def downward(drawing, gap, number):
    ends = reach(drawing, gap)
    if number < ends[0]:
        return None
    steps = steps_of(drawing, gap[0])
    worth = min(number, ends[1])
    while not can_rise(steps, worth - ends[0]):
        worth = worth - 1
    return worth


def steps_of(drawing, terms):
    # Whatever the sets are, from the least worth on all others are climbed to by steps of 1, 2 and 3.
    steps = [0, 0, 0, 0]
    for part, times in terms:
        steps[abs(times)] = steps[abs(times)] + size_of(span_of(drawing[part])) - 1
    return steps


def can_rise(steps, rise):
    short = steps[1] + 2 * steps[2]
    fewest = max(0, (rise - short + 2) // 3)
    # Steps of 2 alone have to make up the rest, so this must be even.
    if steps[1] == 0 and (rise - fewest) % 2 == 1:
        fewest = fewest + 1
    return fewest <= min(steps[3], rise // 3)


def reached(drawing, gap, number):
    one = list(first_set(drawing))
    left = number
    for place, term in enumerate(gap[0]):
        first = first_number(drawing, term, gap[0][place + 1:], left)
        if first is None:
            return None
        one[term[0]] = first
        left = left - term[1] * first
    return tuple(one)


def first_number(drawing, term, further, left):
    ends = reach_of_terms(drawing, further)
    steps = steps_of(drawing, further)
    span = span_of(drawing[term[0]])
    bound = left - ends[1] if term[1] > 0 else left - ends[0]
    first = max(span[0], quotient_up(bound, term[1]))
    # Which rises there are comes again with each second or third number, but for two of them at most.
    for number in range(first, min(first + MOST_TRIES, span[1] + 1)):
        if can_rise(steps, left - term[1] * number - ends[0]):
            return number
    return None


def quotient_up(number, by):
    return -(-number // by)
