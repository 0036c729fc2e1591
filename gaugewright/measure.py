"""Which parts have to be measured to decide a gap, and witnesses, which show that fewer don't."""

from gaugewright.cuts import choices_of
from gaugewright.drawings import all_sets, is_set
from gaugewright.gaps import keeps
from gaugewright.kinds import is_same


def decides(drawing, gap, parts):
    return twins(drawing, gap, parts) is None


def twins(drawing, gap, parts):
    return twins_among(looked_at(drawing, gap), parts)


def looked_at(drawing, gap):
    return [(one, keeps(gap, one)) for one in all_sets(drawing)]


def twins_among(looks, parts):
    firsts = {}
    for one, kept in looks:
        firsts.setdefault((numbers_at(one, parts), kept), one)
    # The firsts stand in the sets' order, as a dict keeps the order in which its keys came.
    for seen, one in firsts.items():
        breaking = firsts.get((seen[0], False))
        if seen[1] and breaking is not None:
            return (one, breaking)
    return None


def numbers_at(one, parts):
    return tuple([one[part] for part in parts])


def fewest(drawing, gap):
    looks = looked_at(drawing, gap)
    for many in range(len(drawing) + 1):
        for parts in choices_of(len(drawing), many):
            if twins_among(looks, parts) is None:
                return parts


def witness_of(drawing, gap):
    looks = looked_at(drawing, gap)
    return [(parts,) + twins_among(looks, parts) for parts in one_part_less(drawing, len(fewest(drawing, gap)))]


def one_part_less(drawing, many):
    return choices_of(len(drawing), many - 1) if many > 0 else []


def witness_holds(drawing, gap, many, thing):
    # Beyond all parts and one there are no tuples left to ask for, and a list without anything shows nothing.
    if not isinstance(thing, list) or many > len(drawing) + 1:
        return False
    wanted = one_part_less(drawing, many)
    if len(thing) != len(wanted):
        return False
    return all([is_witness_row(drawing, gap, parts, row) for parts, row in zip(wanted, thing)])


def is_witness_row(drawing, gap, parts, row):
    if not isinstance(row, tuple) or len(row) != 3 or not is_same(row[0], parts):
        return False
    if not is_set(drawing, row[1]) or not is_set(drawing, row[2]):
        return False
    return numbers_at(row[1], parts) == numbers_at(row[2], parts) and keeps(gap, row[1]) and not keeps(gap, row[2])
