"""The desk: told row by row, it keeps a job in the making and answers questions about it."""

from gaugewright.boxes import MOST_PIECES, matched
from gaugewright.cheapest import cheapest
from gaugewright.counter import counter, fitting
from gaugewright.counts import kept_count, share
from gaugewright.cuts import core
from gaugewright.errors import NoGap, NoOffer, NoRow, TooGreat, Unlike
from gaugewright.measure import fewest
from gaugewright.offers import are_offers, price_of
from gaugewright.reach import reach, verdict
from gaugewright.texts import name_told, number_told, one_gap_more, one_part_more, part_called, shown

# What a desk keeps at first: a tuple of its parts, its gaps, and of each part the offers and the box.
NOTHING = ((), (), (), ())


def part_deed(kept, words):
    drawing = one_part_more(kept[0], words)
    part = drawing[-1]
    return (drawing, kept[1], kept[2] + (((part[1], part[2], 0),),), kept[3] + ((),))


def gap_deed(kept, words):
    return (kept[0], one_gap_more(kept[0], kept[1], words), kept[2], kept[3])


def offer_deed(kept, words):
    if len(words) != 5:
        raise NoRow()
    name = name_told(words[1])
    offer = tuple([number_told(word) for word in words[2:]])
    part = part_called(kept[0], name)
    longer = kept[2][part] + (offer,)
    if not are_offers(kept[0][part], longer):
        raise NoOffer(part)
    return (kept[0], kept[1], replaced(kept[2], part, longer), kept[3])


def piece_deed(kept, words):
    if len(words) != 3:
        raise NoRow()
    name = name_told(words[1])
    number = number_told(words[2])
    part = part_called(kept[0], name)
    box = kept[3][part] + (number,)
    if len(box) > MOST_PIECES:
        raise TooGreat(len(box), MOST_PIECES)
    return (kept[0], kept[1], kept[2], replaced(kept[3], part, box))


def replaced(things, place, thing):
    return things[:place] + (thing,) + things[place + 1:]


def reach_answer(kept, gap):
    ends = reach(kept[0], gap)
    return written([ends[0], ends[1], verdict(kept[0], gap)])


def kept_answer(kept, gap):
    many = kept_count(kept[0], gap)
    portion = share(kept[0], gap)
    top = portion[0]
    bottom = portion[1]
    return f"{many} {top}/{bottom}"


def fewest_answer(kept, gap):
    return written(fewest(kept[0], gap))


def match_answer(kept, gap):
    if len(gap[0]) != 2:
        raise Unlike()
    parts = [part for part, times in gap[0]]
    terms = tuple([(box, term[1]) for box, term in enumerate(gap[0])])
    found = matched((terms, gap[1], gap[2]), kept[3][parts[0]], kept[3][parts[1]])
    return written([f"{piece}-{other}" for piece, other in found])


def counter_answer(kept):
    found = counter(job_of(kept))
    return written(None if found is None else (found[1],) + found[0])


def fitting_answer(kept):
    return written(fitting(job_of(kept)))


def core_answer(kept):
    return written(core(job_of(kept)))


def cheapest_answer(kept):
    choice = cheapest(job_of(kept), kept[2])
    return written(None if choice is None else (price_of(kept[2], choice),) + choice)


def job_answer(kept):
    return shown(job_of(kept)).replace("\n", " ; ")


def job_of(kept):
    return (kept[0], kept[1])


def written(things):
    # None, and what has nothing in it, are told by the same word.
    return " ".join([str(thing) for thing in things]) if things else "none"


DEEDS = {"part": part_deed, "gap": gap_deed, "offer": offer_deed, "piece": piece_deed}
GAP_ANSWERS = {"reach": reach_answer, "kept": kept_answer, "fewest": fewest_answer, "match": match_answer}
JOB_ANSWERS = {
    "counter": counter_answer,
    "fitting": fitting_answer,
    "core": core_answer,
    "cheapest": cheapest_answer,
    "job": job_answer,
}


def answered(kept, words):
    if len(words) == 2 and words[0] in GAP_ANSWERS:
        return GAP_ANSWERS[words[0]](kept, gap_told(kept[1], words[1]))
    if len(words) == 1 and words[0] in JOB_ANSWERS:
        if not kept[1]:
            raise NoGap(0)
        return JOB_ANSWERS[words[0]](kept)
    raise NoRow()


def gap_told(gaps, word):
    number = number_told(word)
    if number < 0:
        raise NoRow()
    if number >= len(gaps):
        raise NoGap(number)
    return gaps[number]


class Desk:
    def __init__(self):
        # What was kept behind each deed that stands, so that the last of them can be undone.
        self.stages = [NOTHING]

    def say(self, row):
        if not isinstance(row, str):
            raise NoRow()
        words = row.split(" ")
        if words == ["back"]:
            self.undo()
            return "ok"
        if words[0] in DEEDS:
            self.stages.append(DEEDS[words[0]](self.stages[-1], words))
            return "ok"
        return answered(self.stages[-1], words)

    def undo(self):
        if len(self.stages) == 1:
            raise NoRow()
        self.stages.pop()
