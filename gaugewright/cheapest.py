"""The safe choice of least price, and floors: lists that show that no safe choice is cheaper than a price."""

from gaugewright.counter import counter
from gaugewright.drawings import each_longer, is_set
from gaugewright.errors import TooGreat
from gaugewright.gaps import keeps
from gaugewright.kinds import is_whole
from gaugewright.offers import is_beginning, narrowed_by, price_of, safe, sizes_of

MOST_CHOICES = 300


def cheapest(job, offers):
    refuse_too_many(sizes_of(offers))
    found = [choice for choice in all_choices(sizes_of(offers)) if safe(job, offers, choice)]
    # Of like prices the first one is told, and they come as rising tuples.
    return min(found, key=lambda choice: price_of(offers, choice), default=None)


def refuse_too_many(sizes):
    many = choices_behind(sizes, ())
    if many > MOST_CHOICES:
        raise TooGreat(many, MOST_CHOICES)


def choices_behind(sizes, beginning):
    many = 1
    for size in sizes[len(beginning):]:
        many = many * size
    return many


def all_choices(sizes):
    choices = [()]
    for size in sizes:
        choices = each_longer(choices, list(range(size)))
    return choices


def floor_of(job, offers, price):
    sizes = sizes_of(offers)
    refuse_too_many(sizes)
    return rows_with_whys(sizes, lambda beginning: why_not(job, offers, price, beginning))


def rows_with_whys(sizes, why_of):
    rows = []
    left = [()]
    while left:
        beginning = left.pop()
        why = why_of(beginning)
        if why is not None:
            rows.append((beginning, why))
        elif len(beginning) == len(sizes):
            return None
        else:
            # What is put in last is looked at first, so the least one goes in last.
            left.extend(each_longer([beginning], list(range(sizes[len(beginning)] - 1, -1, -1))))
    return rows


def why_not(job, offers, price, beginning):
    if price_of(offers, beginning) >= price:
        return ("dear",)
    found = counter((narrowest(job[0], offers, beginning), job[1]))
    return None if found is None else ("breaks", found[1], found[0])


def narrowest(drawing, offers, beginning):
    lasts = [size - 1 for size in sizes_of(offers)]
    return narrowed_by(drawing, offers, beginning + tuple(lasts[len(beginning):]))


def floor_holds(job, offers, price, thing):
    if not are_rows(sizes_of(offers), thing):
        return False
    return all([is_why_not(job, offers, price, beginning, why) for beginning, why in thing])


def are_rows(sizes, thing):
    if not isinstance(thing, list):
        return False
    if not all([isinstance(row, tuple) and len(row) == 2 for row in thing]):
        return False
    return part_all_choices(sizes, [row[0] for row in thing])


def part_all_choices(sizes, things):
    if not all([is_beginning(sizes, thing) for thing in things]):
        return False
    # What begins with a tuple comes right behind it, so looking at neighbours is enough.
    if not all([ahead < thing and thing[:len(ahead)] != ahead for ahead, thing in zip(things, things[1:])]):
        return False
    # As no choice begins with two of them, they are enough where they count as many choices as there are.
    return sum([choices_behind(sizes, thing) for thing in things]) == choices_behind(sizes, ())


def is_why_not(job, offers, price, beginning, why):
    if why == ("dear",):
        return price_of(offers, beginning) >= price
    if not isinstance(why, tuple) or len(why) != 3 or why[0] != "breaks":
        return False
    if not is_whole(why[1]) or not 0 <= why[1] < len(job[1]):
        return False
    return is_set(narrowest(job[0], offers, beginning), why[2]) and not keeps(job[1][why[1]], why[2])
