"""Boxes of measured pieces: which of two boxes fit, how most are matched, and covers, which show why no more can be."""

from gaugewright.gaps import keeps
from gaugewright.kinds import is_number, is_whole

MOST_PIECES = 10


def is_box(thing):
    if not isinstance(thing, tuple) or len(thing) > MOST_PIECES:
        return False
    return all([is_number(piece) for piece in thing])


def pairs(gap, one, other):
    found = []
    for i, partners in enumerate(partners_of(gap, one, other)):
        found.extend([(i, j) for j in partners])
    return found


def partners_of(gap, one, other):
    return [fitting_pieces(gap, number, other) for number in one]


def fitting_pieces(gap, number, other):
    return [j for j, its_number in enumerate(other) if keeps(gap, (number, its_number))]


def all_fit(gap, one, other):
    return len(pairs(gap, one, other)) == len(one) * len(other)


def matched(gap, one, other):
    rows = partners_of(gap, one, other)
    most = len(most_matched(rows))
    told = []
    used = []
    for i in range(len(rows)):
        j = least_partner(rows, i, used, most - len(told) - 1)
        if j is not None:
            told.append((i, j))
            used.append(j)
    return told


def least_partner(rows, i, used, wanted):
    # A piece is matched wherever the later pieces can still make up what is wanted beside it.
    for j in free_partners(rows[i], used):
        later = [free_partners(row, used + [j]) for row in rows[i + 1:]]
        if len(most_matched(later)) == wanted:
            return j
    return None


def free_partners(row, used):
    return [j for j in row if j not in used]


def most_matched(rows):
    matches = {}
    for i in range(len(rows)):
        find_match(rows, i, matches, {})
    return matches


def find_match(rows, i, matches, asked):
    for j in rows[i]:
        if j in asked:
            continue
        asked[j] = True
        if j not in matches or find_match(rows, matches[j], matches, asked):
            matches[j] = i
            return True
    return False


def cover_of(gap, one, other):
    rows = partners_of(gap, one, other)
    matches = most_matched(rows)
    left = [i for i in range(len(rows)) if i not in list(matches.values())]
    seen = {}
    others = {}
    # From the pieces without a match on, what they fit has to be covered, and then not the match of that.
    while left:
        i = left.pop()
        seen[i] = True
        for j in rows[i]:
            if j not in others:
                others[j] = True
                left.append(matches[j])
    return (tuple([i for i in range(len(rows)) if i not in seen]), tuple(sorted(others)))


def cover_holds(gap, one, other, thing):
    if not isinstance(thing, tuple) or len(thing) != 2:
        return False
    if not are_rising_pieces(one, thing[0]) or not are_rising_pieces(other, thing[1]):
        return False
    return all([i in thing[0] or j in thing[1] for i, j in pairs(gap, one, other)])


def are_rising_pieces(box, thing):
    if not isinstance(thing, tuple) or not all([is_whole(piece) and 0 <= piece < len(box) for piece in thing]):
        return False
    return all([ahead < piece for ahead, piece in zip(thing, thing[1:])])
