"""Gaps: tuples (terms, low, high), terms being tuples (part, times); and their worths for sets."""

from gaugewright.kinds import are_ends, is_whole

MOST_TERMS = 8
MOST_TIMES = 3


def is_gap(drawing, thing):
    if not isinstance(thing, tuple) or len(thing) != 3:
        return False
    return are_terms(drawing, thing[0]) and are_ends(thing[1], thing[2])


def are_terms(drawing, thing):
    if not isinstance(thing, tuple) or not 1 <= len(thing) <= MOST_TERMS:
        return False
    ahead = -1
    for term in thing:
        if not is_term(drawing, term) or term[0] <= ahead:
            return False
        ahead = term[0]
    return True


def is_term(drawing, thing):
    if not isinstance(thing, tuple) or len(thing) != 2:
        return False
    if not is_whole(thing[0]) or not is_whole(thing[1]):
        return False
    return 0 <= thing[0] < len(drawing) and 1 <= abs(thing[1]) <= MOST_TIMES


def wanted_of(gap):
    return (gap[1], gap[2])


def worth_of(gap, one):
    return sum([times * one[part] for part, times in gap[0]])


def keeps(gap, one):
    return gap[1] <= worth_of(gap, one) <= gap[2]
