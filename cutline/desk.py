"""A desk: a line and marks, changed by deeds that can be undone and done again."""

from cutline.deeds import carried, done
from cutline.errors import NoDeed
from cutline.lines import empty_line, line_of


# A state is never changed once it is made: so a deed is undone by going back
# to the state ahead of it, and a deed that is refused leaves all as it was.
class State:
    def __init__(self, drawn, marks):
        self.drawn = drawn
        self.marks = marks


def with_mark(state, name, place):
    marks = dict(state.marks)
    marks[name] = place
    return State(state.drawn, marks)


def behind_deed(state, deed):
    if deed[0] == "mark":
        return with_mark(state, deed[1], deed[2])
    drawn = done(state.drawn, deed)
    marks = {}
    for name in state.marks:
        marks[name] = carried(state.marks[name], deed)
    return State(drawn, marks)


class Desk:
    def __init__(self):
        self.present = State(empty_line(), {})
        self.past = []
        self.undone = []

    def do(self, deed):
        behind = behind_deed(self.present, deed)
        self.past.append(self.present)
        self.present = behind
        self.undone = []

    def undo(self):
        if len(self.past) == 0:
            raise NoDeed("there is nothing to undo")
        self.undone.append(self.present)
        self.present = self.past.pop()

    def redo(self):
        if len(self.undone) == 0:
            raise NoDeed("there is nothing to do again")
        self.past.append(self.present)
        self.present = self.undone.pop()

    # A line of its own for each asker: its lists are in the asker's hands then.
    def line(self):
        drawn = self.present.drawn
        return line_of(drawn.cuts, drawn.holds)

    def where(self, name):
        return self.present.marks.get(name)

    def names(self):
        return sorted(self.present.marks)
