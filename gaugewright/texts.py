"""Jobs written as texts, a row for each part and each gap; and how words of such rows are read."""

from gaugewright.drawings import MOST_PARTS, drawing_of
from gaugewright.errors import NoDrawing, NoGap, NoPart, NoRow, NoText
from gaugewright.gaps import is_gap
from gaugewright.kinds import is_name

FIGURES = "0123456789"
MOST_FIGURES = 60
MOST_GAPS = 6


def shown(job):
    rows = [f"part {name} {low} {high}" for name, low, high in job[0]]
    rows.extend([gap_row(job[0], gap) for gap in job[1]])
    return "\n".join(rows)


def gap_row(drawing, gap):
    words = ["gap", str(gap[1]), str(gap[2])]
    for part, times in gap[0]:
        words.extend([str(times), drawing[part][0]])
    return " ".join(words)


def read(text):
    if not isinstance(text, str):
        raise NoText(0)
    rows = text.split("\n")
    job = ((), ())
    for number, row in enumerate(rows, start=1):
        try:
            job = with_row(job, row.split(" "))
        except (NoRow, NoDrawing, NoPart, NoGap):
            raise NoText(number) from None
    if not job[1]:
        raise NoText(len(rows) + 1)
    return job


def with_row(job, words):
    if words[0] == "part" and not job[1]:
        return (one_part_more(job[0], words), job[1])
    if words[0] == "gap":
        return (job[0], one_gap_more(job[0], job[1], words))
    raise NoRow()


def one_part_more(drawing, words):
    if len(words) != 4:
        raise NoRow()
    part = (name_told(words[1]), number_told(words[2]), number_told(words[3]))
    if len(drawing) == MOST_PARTS:
        raise NoDrawing(len(drawing))
    return drawing_of(list(drawing) + [part])


def one_gap_more(drawing, gaps, words):
    if len(words) < 5 or len(words) % 2 == 0:
        raise NoRow()
    ends = [number_told(word) for word in words[1:3]]
    times = [number_told(word) for word in words[3::2]]
    names = [name_told(word) for word in words[4::2]]
    parts = [part_called(drawing, name) for name in names]
    gap = (tuple(zip(parts, times)), ends[0], ends[1])
    if len(gaps) == MOST_GAPS or not is_gap(drawing, gap):
        raise NoGap(len(gaps))
    return gaps + (gap,)


def part_called(drawing, name):
    names = [part[0] for part in drawing]
    if name not in names:
        raise NoPart()
    return names.index(name)


def name_told(word):
    if not is_name(word):
        raise NoRow()
    return word


def number_told(word):
    figures = word[1:] if word.startswith("-") else word
    if not 1 <= len(figures) <= MOST_FIGURES or not all([figure in FIGURES for figure in figures]):
        raise NoRow()
    if figures[0] == "0" and word != "0":
        raise NoRow()
    return int(word)
