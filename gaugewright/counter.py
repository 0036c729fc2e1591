"""The first set that breaks a job (drawing, gaps), and the first one that keeps it."""

from gaugewright.drawings import all_sets, first_set
from gaugewright.gaps import keeps
from gaugewright.reach import quotient_up, reach_of_terms


def counter(job):
    found = [one for one in first_breakers(job) if one is not None]
    if not found:
        return None
    one = min(found)
    return (one, kept_gaps(job[1], one).index(False))


def first_breakers(job):
    found = []
    for terms, low, high in job[1]:
        found.append(first_no_greater(job[0], terms, low - 1))
        found.append(first_no_greater(job[0], opposite(terms), -high - 1))
    return found


def opposite(terms):
    return tuple([(part, -times) for part, times in terms])


def first_no_greater(drawing, terms, most):
    if reach_of_terms(drawing, terms)[0] > most:
        return None
    one = list(first_set(drawing))
    left = most
    for place, term in enumerate(terms):
        if term[1] < 0:
            further = reach_of_terms(drawing, terms[place + 1:])[0]
            one[term[0]] = max(one[term[0]], quotient_up(left - further, term[1]))
        left = left - term[1] * one[term[0]]
    return tuple(one)


def kept_gaps(gaps, one):
    return [keeps(gap, one) for gap in gaps]


def fitting(job):
    for one in all_sets(job[0]):
        if all(kept_gaps(job[1], one)):
            return one
    return None
