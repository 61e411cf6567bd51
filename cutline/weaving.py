"""Lines laid on one another: joined by a way, woven, and told of the woven line again."""

from cutline.errors import BadAsk
from cutline.lines import line_of, own_copy


def cuts_of_all(lines):
    cuts = []
    for line in lines:
        cuts.extend(line.cuts)
    return sorted(set(cuts))


# The cuts must have all cuts of the line among them: so one walk over both does.
def holds_between(line, cuts):
    holds = [line.holds[0]]
    passed = 0
    for cut in cuts:
        if passed < len(line.cuts) and line.cuts[passed] == cut:
            passed += 1
        holds.append(line.holds[passed])
    return holds


# The way is code from outside: it may keep or change what it gets and what it
# gives back, and neither the old lines nor the new one may hang on that.
def joined(one, other, way):
    cuts = cuts_of_all([one, other])
    holds = []
    for here, there in zip(holds_between(one, cuts), holds_between(other, cuts)):
        holds.append(own_copy(way(own_copy(here), own_copy(there))))
    return line_of(cuts, holds)


def things_at(columns, number):
    return tuple([column[number] for column in columns])


def woven(lines):
    if len(lines) == 0:
        raise BadAsk("at least one line can be woven")
    cuts = cuts_of_all(lines)
    columns = [holds_between(line, cuts) for line in lines]
    return line_of(cuts, [things_at(columns, number) for number in range(len(cuts) + 1)])


def unwoven(line, number):
    return line_of(line.cuts, [things[number] for things in line.holds])
