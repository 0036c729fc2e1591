"""Stacks of shims that bring a worth into a span, and tables, which show that fewer shims don't."""

from gaugewright.errors import TooGreat
from gaugewright.kinds import is_same

MOST_RISE = 200


def stack_of(shims, number, span):
    rows = rows_to_the_end(shims, number, span)
    return min(stacks_that_do(rows[-1], number, span), default=None)


def rows_to_the_end(shims, number, span):
    # The last row is the first one with a stack that does, or the first one without any sum.
    most = most_rise(number, span)
    rows = [first_row(most)]
    while rows[-1] and not stacks_that_do(rows[-1], number, span):
        rows.append(next_row(shims, rows[-1], most))
    return rows


def most_rise(number, span):
    most = span[1] - number
    if most > MOST_RISE:
        raise TooGreat(most, MOST_RISE)
    return most


def first_row(most):
    return {0: ()} if most >= 0 else {}


def next_row(shims, row, most):
    # A row has, for each sum of so many thicknesses, the least stack that comes to it. As places rise here, the first
    # one that leads to a sum begins the least stack; a lesser place in the rest would have led to it ahead.
    longer = {}
    for place, thickness in enumerate(shims):
        for rise, stack in row.items():
            if rise + thickness <= most:
                longer.setdefault(rise + thickness, (place,) + stack)
    return longer


def stacks_that_do(row, number, span):
    return [stack for rise, stack in row.items() if span[0] <= number + rise <= span[1]]


def table_of(shims, number, span):
    rows = rows_to_the_end(shims, number, span)
    return [sums_of(row) for row in rows if not stacks_that_do(row, number, span)]


def sums_of(row):
    return tuple(sorted(row))


def table_holds(shims, number, span, many, thing):
    most = most_rise(number, span)
    if not isinstance(thing, list) or len(thing) != many:
        return False
    row = first_row(most)
    for told in thing:
        if not is_same(told, sums_of(row)) or stacks_that_do(row, number, span):
            return False
        row = next_row(shims, row, most)
    return True
