"""Lines that hold something at every place, each in its one form."""


class Line:
    def __init__(self, cuts, holds):
        self.cuts = cuts
        self.holds = holds


# What a line holds may itself be a list or hold one, and whoever handed it in,
# or gets it back, may change it: the line must not hang on that.
def own_copy(thing):
    if isinstance(thing, list):
        return [own_copy(part) for part in thing]
    if isinstance(thing, tuple):
        return tuple([own_copy(part) for part in thing])
    if isinstance(thing, dict):
        fresh = {}
        for key in thing:
            fresh[key] = own_copy(thing[key])
        return fresh
    return thing


def line_of(cuts, holds):
    kept_cuts = []
    kept_holds = [own_copy(holds[0])]
    for number, cut in enumerate(cuts):
        last_of_alike = number + 1 == len(cuts) or cuts[number + 1] != cut
        hold = holds[number + 1]
        if last_of_alike and not hold == kept_holds[-1]:
            kept_cuts.append(cut)
            kept_holds.append(own_copy(hold))
    return Line(kept_cuts, kept_holds)


def empty_line():
    return line_of([], [None])


# Halving keeps long lines quick to ask. The count of the cuts that are not
# behind the place is also the number of the hold that counts there.
def cuts_up_to(line, place):
    low = 0
    high = len(line.cuts)
    while low < high:
        middle = (low + high) // 2
        if line.cuts[middle] <= place:
            low = middle + 1
        else:
            high = middle
    return low


def value_at(line, place):
    return own_copy(line.holds[cuts_up_to(line, place)])


def same(one, other):
    return one.cuts == other.cuts and one.holds == other.holds
