"""Trims (much, price) to take off parts that are built, the cheapest filing, and bars, which show none is cheaper."""

from gaugewright.cheapest import all_choices, are_rows, refuse_too_many, rows_with_whys
from gaugewright.counter import kept_gaps
from gaugewright.cuts import misses
from gaugewright.kinds import is_number, is_whole
from gaugewright.offers import is_choice, made_by_parts, sizes_of

MOST_TRIMS = 3


def trims_of(drawing, things):
    return made_by_parts(drawing, things, lambda part, thing: are_trims(thing))


def are_trims(thing):
    if not isinstance(thing, tuple) or len(thing) > MOST_TRIMS or not all([is_trim(trim) for trim in thing]):
        return False
    return all([ahead[0] < trim[0] and ahead[1] < trim[1] for ahead, trim in zip(thing, thing[1:])])


def is_trim(thing):
    if not isinstance(thing, tuple) or len(thing) != 2:
        return False
    return all([is_number(number) and number >= 1 for number in thing])


def ways_of(trims):
    # To take nothing off is a way too, the one of the number 0.
    return tuple([((0, 0),) + of_part for of_part in trims])


def chosen_ways(trims, filing):
    return [of_part[number] for of_part, number in zip(ways_of(trims), filing)]


def is_filing(trims, thing):
    return is_choice(ways_of(trims), thing)


def filed(built, trims, filing):
    return tuple([number - way[0] for number, way in zip(built, chosen_ways(trims, filing))])


def filing_price(trims, filing):
    return sum([way[1] for way in chosen_ways(trims, filing)])


def cheapest_filing(job, built, trims):
    sizes = sizes_of(ways_of(trims))
    refuse_too_many(sizes)
    found = [filing for filing in all_choices(sizes) if all(kept_gaps(job[1], filed(built, trims, filing)))]
    # Of like prices the first one is told, and they come as rising tuples.
    return min(found, key=lambda filing: filing_price(trims, filing), default=None)


def bar_of(job, built, trims, price):
    sizes = sizes_of(ways_of(trims))
    refuse_too_many(sizes)
    return rows_with_whys(sizes, lambda beginning: why_no_filing(job, built, trims, price, beginning))


def why_no_filing(job, built, trims, price, beginning):
    if filing_price(trims, beginning) >= price:
        return ("dear",)
    left = what_may_be_left(job[0], built, trims, beginning)
    for number, gap in enumerate(job[1]):
        if misses(left, gap):
            return ("off", number)
    return None


def what_may_be_left(drawing, built, trims, beginning):
    spans = [(number, number) for number in filed(built, trims, beginning)]
    for number, ways in list(zip(built, ways_of(trims)))[len(beginning):]:
        spans.append((number - ways[-1][0], number))
    return tuple([(part[0], span[0], span[1]) for part, span in zip(drawing, spans)])


def bar_holds(job, built, trims, price, thing):
    if not are_rows(sizes_of(ways_of(trims)), thing):
        return False
    return all([is_why_no_filing(job, built, trims, price, beginning, why) for beginning, why in thing])


def is_why_no_filing(job, built, trims, price, beginning, why):
    if why == ("dear",):
        return filing_price(trims, beginning) >= price
    if not isinstance(why, tuple) or len(why) != 2 or why[0] != "off":
        return False
    if not is_whole(why[1]) or not 0 <= why[1] < len(job[1]):
        return False
    return misses(what_may_be_left(job[0], built, trims, beginning), job[1][why[1]])
