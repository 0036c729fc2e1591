"""Drawings: tuples of parts (name, low, high); and their sets, a number for each part."""

from gaugewright.errors import NoDrawing, NoPart, NoSet, NoSpan, TooGreat
from gaugewright.kinds import are_ends, is_name, is_whole
from gaugewright.spans import inside, is_span, size_of

MOST_PARTS = 8
MOST_SETS = 300


def is_part(thing):
    if not isinstance(thing, tuple) or len(thing) != 3:
        return False
    return is_name(thing[0]) and are_ends(thing[1], thing[2])


def span_of(part):
    return (part[1], part[2])


def drawing_of(things):
    names = {}
    for number, thing in enumerate(things):
        if not is_part(thing) or thing[0] in names:
            raise NoDrawing(number)
        names[thing[0]] = True
    if not 1 <= len(things) <= MOST_PARTS:
        raise NoDrawing(len(things))
    return tuple(things)


def is_set(drawing, thing):
    if not isinstance(thing, tuple) or len(thing) != len(drawing):
        return False
    return all([is_whole(number) and part[1] <= number <= part[2] for number, part in zip(thing, drawing)])


def first_set(drawing):
    return tuple([part[1] for part in drawing])


def last_set(drawing):
    return tuple([part[2] for part in drawing])


def nearest(drawing, numbers):
    if len(numbers) != len(drawing):
        raise NoSet()
    return tuple([min(max(number, part[1]), part[2]) for number, part in zip(numbers, drawing)])


def narrowed(drawing, part, span):
    # Python would take a number below nought for a part counted from the end.
    if not 0 <= part < len(drawing):
        raise NoPart()
    old = drawing[part]
    if not is_span(span) or not inside(span, span_of(old)):
        raise NoSpan()
    return drawing[:part] + ((old[0], span[0], span[1]),) + drawing[part + 1:]


def how_many(drawing):
    many = 1
    for part in drawing:
        many = many * size_of(span_of(part))
    return many


def refuse_too_many_sets(drawing):
    many = how_many(drawing)
    if many > MOST_SETS:
        raise TooGreat(many, MOST_SETS)


def all_sets(drawing):
    refuse_too_many_sets(drawing)
    beginnings = [()]
    for part in drawing:
        beginnings = each_longer(beginnings, list(range(part[1], part[2] + 1)))
    return beginnings


def each_longer(beginnings, numbers):
    longer = []
    for beginning in beginnings:
        longer.extend([beginning + (number,) for number in numbers])
    return longer
