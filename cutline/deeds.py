"""Deeds: what they make of a line, and where they carry a place."""

from cutline.errors import BadDeed
from cutline.lines import cuts_up_to, line_of


# The refusals don't show the number: Python refuses to write very long ones,
# and that would be another error than the one that is promised.
def check_size(size):
    if size < 0:
        raise BadDeed("a size is at least 0")


def check_times(times):
    if times < 1:
        raise BadDeed("times are at least 1")


def has_no_places(start, end):
    return start is not None and end is not None and end <= start


# A cut of the old line that stands just where a deed cuts anew may stay ahead
# of the new one: of cuts that are alike line_of lets the last one count.
def put(line, start, end, value):
    if has_no_places(start, end):
        return line_of(line.cuts, line.holds)
    cuts = []
    holds = [value]
    if start is not None:
        ahead = cuts_up_to(line, start)
        cuts = line.cuts[:ahead] + [start]
        holds = line.holds[:ahead + 1] + [value]
    if end is not None:
        passed = cuts_up_to(line, end)
        cuts = cuts + [end] + line.cuts[passed:]
        holds = holds + line.holds[passed:]
    return line_of(cuts, holds)


def opened(line, place, size):
    check_size(size)
    ahead = cuts_up_to(line, place)
    moved = [cut + size for cut in line.cuts[ahead:]]
    cuts = line.cuts[:ahead] + [place, place + size] + moved
    holds = line.holds[:ahead + 1] + [None] + line.holds[ahead:]
    return line_of(cuts, holds)


def closed(line, place, size):
    check_size(size)
    ahead = cuts_up_to(line, place)
    passed = cuts_up_to(line, place + size)
    moved = [cut - size for cut in line.cuts[passed:]]
    cuts = line.cuts[:ahead] + [place] + moved
    holds = line.holds[:ahead + 1] + line.holds[passed:]
    return line_of(cuts, holds)


def stretched(line, times):
    check_times(times)
    return line_of([cut * times for cut in line.cuts], line.holds)


def done(line, deed):
    word = deed[0]
    if word == "put":
        return put(line, deed[1], deed[2], deed[3])
    if word == "open":
        return opened(line, deed[1], deed[2])
    if word == "close":
        return closed(line, deed[1], deed[2])
    if word == "stretch":
        return stretched(line, deed[1])
    raise BadDeed("there is no deed with this word")


def carried_by_opening(place, gap, size):
    check_size(size)
    return place if place < gap else place + size


def carried_by_closing(place, gap, size):
    check_size(size)
    return place if place < gap else max(gap, place - size)


def carried_by_stretching(place, times):
    check_times(times)
    return place * times


def carried(place, deed):
    word = deed[0]
    if word == "put":
        return place
    if word == "open":
        return carried_by_opening(place, deed[1], deed[2])
    if word == "close":
        return carried_by_closing(place, deed[1], deed[2])
    if word == "stretch":
        return carried_by_stretching(place, deed[1])
    raise BadDeed("there is no deed with this word")
