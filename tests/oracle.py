"""A second telling of the document, place by place, to hold the program against."""

from itertools import combinations_with_replacement, product

NEAR = range(-60, 61)


def told(cuts, holds):
    """What point 4 says is held at a place, as a function of the place."""
    def at(place):
        held = holds[0]
        for number, cut in enumerate(cuts):
            if cut <= place:
                held = holds[number + 1]
        return held
    return at


def in_stretch(place, start, end):
    return (start is None or start <= place) and (end is None or place < end)


def after(at, deed):
    """What point 6 says is held behind the deed, as a function of the place."""
    if deed[0] == "put":
        return lambda p: deed[3] if in_stretch(p, deed[1], deed[2]) else at(p)
    if deed[0] == "open":
        def behind_opening(p):
            if p < deed[1]:
                return at(p)
            return None if p < deed[1] + deed[2] else at(p - deed[2])
        return behind_opening
    if deed[0] == "close":
        return lambda p: at(p) if p < deed[1] else at(p + deed[2])
    return lambda p: at(p // deed[1])


def form(at, places=NEAR):
    """The cuts and holds of point 3, where all cuts lie within the places."""
    cuts = [p for p in places[1:] if at(p) != at(p - 1)]
    return cuts, [at(places[0])] + [at(cut) for cut in cuts]


def tellings(places, holds, most):
    """All cuts that don't fall, up to so many, with all holds between them."""
    for count in range(most + 1):
        for cuts in combinations_with_replacement(places, count):
            for between in product(holds, repeat=count + 1):
                yield list(cuts), list(between)


def stretches(places):
    ends = [None] + list(places)
    return [(start, end) for start in ends for end in ends]


def deeds(places, sizes, times, values):
    every = [("put", start, end, value)
             for start, end in stretches(places) for value in values]
    every += [(word, place, size)
              for word in ("open", "close") for place in places for size in sizes]
    return every + [("stretch", many) for many in times]
