"""How many sets of a drawing have which worth of a gap, and which place those that keep it have among one another."""

from gaugewright.drawings import how_many, is_set, span_of
from gaugewright.errors import NoSet, TooGreat
from gaugewright.gaps import keeps
from gaugewright.kinds import is_whole
from gaugewright.reach import reach
from gaugewright.spans import size_of

MOST_WORTHS = 400


def spread(drawing, gap):
    return sorted(tallies_of(drawing, gap)[0].items())


def kept_count(drawing, gap):
    return kept_behind(tallies_of(drawing, gap)[0], gap, 0)


def share(drawing, gap):
    top = kept_count(drawing, gap)
    bottom = how_many(drawing)
    common = common_divisor(top, bottom)
    return (top // common, bottom // common)


def common_divisor(one, other):
    while one != 0:
        rest = other % one
        other = one
        one = rest
    return other


def middle_worth(drawing, gap):
    many = how_many(drawing)
    no_greater = 0
    for worth, more in spread(drawing, gap):
        no_greater = no_greater + more
        if 2 * no_greater >= many:
            return worth


def commonest(drawing, gap):
    told = None
    most = 0
    for worth, many in spread(drawing, gap):
        if many > most:
            told = worth
            most = many
    return told


def nth(drawing, gap, number):
    tallies = tallies_of(drawing, gap)
    if not is_whole(number) or not 0 <= number < kept_behind(tallies[0], gap, 0):
        raise NoSet()
    one = ()
    left = number
    for part in range(len(drawing)):
        found = number_at(drawing, gap, one, tallies[part + 1], left)
        one = one + (found,)
        left = left - kept_ahead(drawing, gap, one, tallies[part + 1])
    return one


def number_at(drawing, gap, beginning, tally, left):
    part = len(beginning)
    span = span_of(drawing[part])
    times = dict(gap[0])
    worth = worth_of_beginning(gap, beginning)
    if part not in times:
        return span[0] + left // kept_behind(tally, gap, worth)
    for number in range(span[0], span[1] + 1):
        many = kept_behind(tally, gap, worth + times[part] * number)
        if left < many:
            return number
        left = left - many


def number_of(drawing, gap, thing):
    tallies = tallies_of(drawing, gap)
    if not is_set(drawing, thing) or not keeps(gap, thing):
        raise NoSet()
    return sum([kept_ahead(drawing, gap, thing[:part + 1], tallies[part + 1]) for part in range(len(drawing))])


def kept_ahead(drawing, gap, beginning, tally):
    # Of the sets that keep the gap, those that are alike but for a lesser number at the beginning's end.
    part = len(beginning) - 1
    low = drawing[part][1]
    times = dict(gap[0])
    worth = worth_of_beginning(gap, beginning[:part])
    if part not in times:
        return (beginning[part] - low) * kept_behind(tally, gap, worth)
    return sum([kept_behind(tally, gap, worth + times[part] * number) for number in range(low, beginning[part])])


def worth_of_beginning(gap, beginning):
    return sum([times * beginning[part] for part, times in gap[0] if part < len(beginning)])


def tallies_of(drawing, gap):
    many = size_of(reach(drawing, gap))
    if many > MOST_WORTHS:
        raise TooGreat(many, MOST_WORTHS)
    times = dict(gap[0])
    # The tally of a part's number counts what it and the further parts add to the worth; the last one is of none.
    tallies = [{0: 1}]
    for part in range(len(drawing) - 1, -1, -1):
        tallies.append(with_part(tallies[-1], span_of(drawing[part]), times.get(part, 0)))
    tallies.reverse()
    return tallies


def with_part(tally, span, times):
    if times == 0:
        return dict([(worth, many * size_of(span)) for worth, many in tally.items()])
    longer = {}
    for number in range(span[0], span[1] + 1):
        for worth, many in tally.items():
            total = worth + times * number
            longer[total] = longer.get(total, 0) + many
    return longer


def kept_behind(tally, gap, worth):
    return sum([many for more, many in tally.items() if gap[1] <= worth + more <= gap[2]])
