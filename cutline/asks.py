"""Questions about lines: runs over a stretch, the first room, where two lines part."""

from cutline.errors import BadAsk
from cutline.lines import cuts_up_to, own_copy
from cutline.weaving import joined


def runs(line, start, end):
    if end <= start:
        return []
    first = cuts_up_to(line, start)
    # A cut at the end itself begins a run that the stretch has nothing of.
    last = cuts_up_to(line, end - 1)
    inner = line.cuts[first:last]
    starts = [start] + inner
    ends = inner + [end]
    holds = [own_copy(held) for held in line.holds[first:last + 1]]
    return list(zip(starts, ends, holds))


def tally(line, value, start, end):
    return sum([behind - ahead for ahead, behind, held in runs(line, start, end) if held == value])


def longest(line, value, start, end):
    best = None
    for ahead, behind, held in runs(line, start, end):
        if held == value and (best is None or behind - ahead > best[1]):
            best = (ahead, behind - ahead)
    return best


def first_room(line, value, place, size):
    if size < 1:
        raise BadAsk("a room has a size of at least 1")
    first = cuts_up_to(line, place)
    start = place
    for cut, held in zip(line.cuts[first:], line.holds[first:]):
        if held == value and cut - start >= size:
            return start
        start = cut
    # The last run has no end, so any size has room in it.
    return start if line.holds[-1] == value else None


def unlike(here, there):
    return not here == there


def parted(one, other, place):
    return first_room(joined(one, other, unlike), True, place, 1)
