"""A second telling of the document, place by place, to hold the program against."""

import re
from itertools import combinations_with_replacement, product

NEAR = range(-60, 61)


def told(cuts, holds):
    """What point 4 says is held at a place, as a function of the place."""
    def at(place):
        held = holds[0]
        for number, cut in enumerate(cuts):
            if cut <= place:
                held = holds[number + 1]
        return held
    return at


def in_stretch(place, start, end):
    return (start is None or start <= place) and (end is None or place < end)


def after(at, deed):
    """What point 6 says is held behind the deed, as a function of the place."""
    if deed[0] == "put":
        return lambda p: deed[3] if in_stretch(p, deed[1], deed[2]) else at(p)
    if deed[0] == "open":
        def behind_opening(p):
            if p < deed[1]:
                return at(p)
            return None if p < deed[1] + deed[2] else at(p - deed[2])
        return behind_opening
    if deed[0] == "close":
        return lambda p: at(p) if p < deed[1] else at(p + deed[2])
    return lambda p: at(p // deed[1])


def form(at, places=NEAR):
    """The cuts and holds of point 3, where all cuts lie within the places."""
    cuts = [p for p in places[1:] if at(p) != at(p - 1)]
    return cuts, [at(places[0])] + [at(cut) for cut in cuts]


def tellings(places, holds, most):
    """All cuts that don't fall, up to so many, with all holds between them."""
    for count in range(most + 1):
        for cuts in combinations_with_replacement(places, count):
            for between in product(holds, repeat=count + 1):
                yield list(cuts), list(between)


def stretches(places):
    ends = [None] + list(places)
    return [(start, end) for start in ends for end in ends]


def deeds(places, sizes, times, values):
    every = [("put", start, end, value)
             for start, end in stretches(places) for value in values]
    every += [(word, place, size)
              for word in ("open", "close") for place in places for size in sizes]
    return every + [("stretch", many) for many in times]


def runs(at, start, end):
    """Point 9, one place after the other."""
    found = []
    for place in range(start, end):
        if found and found[-1][2] == at(place):
            found[-1] = (found[-1][0], place + 1, found[-1][2])
        else:
            found.append((place, place + 1, at(place)))
    return found


def tally(at, value, start, end):
    return len([place for place in range(start, end) if at(place) == value])


def longest(at, value, start, end):
    """Of all stretches that hold the value the longest, of these the first."""
    held = [(first, size) for first in range(start, end) for size in range(1, end - first + 1)
            if all(at(first + behind) == value for behind in range(size))]
    return max(held, key=lambda room: (room[1], -room[0]), default=None)


def first_room(at, value, place, size, horizon):
    """Point 10, where the line changes nowhere from the horizon on."""
    for first in range(place, max(place, horizon) + 1):
        if all(at(first + behind) == value for behind in range(size)):
            return first
    return None


def parted(one_at, other_at, place, horizon):
    for first in range(place, max(place, horizon) + 1):
        if one_at(first) != other_at(first):
            return first
    return None


def carried(place, deed):
    """Point 8: what stands at a place stands where it is carried, behind the deed."""
    if deed[0] == "open":
        return place + deed[2] if place >= deed[1] else place
    if deed[0] == "close":
        if place < deed[1]:
            return place
        return deed[1] if place < deed[1] + deed[2] else place - deed[2]
    return deed[1] * place if deed[0] == "stretch" else place


class PlainDesk:
    """Points 13 and 14 by the deeds alone: what counts is done anew for each question."""

    def __init__(self):
        self.deeds = []
        self.count = 0

    def do(self, deed):
        self.deeds = self.deeds[:self.count] + [deed]
        self.count += 1

    def undo(self):
        self.count -= 1

    def redo(self):
        self.count += 1

    def at(self):
        held = told([], [None])
        for deed in self.deeds[:self.count]:
            if deed[0] != "mark":
                held = after(held, deed)
        return held

    def marks(self):
        marks = {}
        for deed in self.deeds[:self.count]:
            if deed[0] == "mark":
                marks[deed[1]] = deed[2]
            else:
                marks = {name: carried(place, deed) for name, place in marks.items()}
        return marks


def written(at, places=NEAR):
    """Point 15, where all cuts lie within the places: they are walked one by one."""
    found = [[None if first == places[0] else first, behind, held]
             for first, behind, held in runs(at, places[0], places[-1] + 1)]
    found[-1][1] = None
    parts = [("" if first is None else str(first)) + ".." + ("" if behind is None else str(behind))
             + " " + held for first, behind, held in found if held is not None]
    return ", ".join(parts)


FIGURES = r"(?:0|-?[1-9][0-9]{0,59})?"
RUN = re.compile("(" + FIGURES + r")\.\.(" + FIGURES + ") ([a-z]{1,12})")


def is_written(text):
    """Whether a text is one that point 15 writes of some line."""
    if text == "":
        return True
    found = [RUN.fullmatch(part) for part in text.split(", ")]
    if not all(found):
        return False
    # A start or an end that is not there lies behind all that can be written.
    far = 10 ** (len(text) + 1)
    ends = [(int(run[1] or -far), int(run[2] or far), run[3]) for run in found]
    return (all(start < end for start, end, _ in ends)
            and all(one[1] != far and other[0] != -far for one, other in zip(ends, ends[1:]))
            and all(one[1] < other[0] or one[1] == other[0] and one[2] != other[2]
                    for one, other in zip(ends, ends[1:])))
