"""Lines written as texts, and read from them."""

from cutline.errors import BadText
from cutline.lines import empty_line, line_of

LONGEST_VALUE = 12
MOST_FIGURES = 60


def shown_run(start, end, value):
    return f"{start}..{end} {value}"


def shown(line):
    places = [str(cut) for cut in line.cuts]
    written = []
    for start, end, value in zip([""] + places, places + [""], line.holds):
        if value is not None:
            written.append(shown_run(start, end, value))
    return ", ".join(written)


def figures_of(text):
    return text[1:] if text.startswith("-") else text


def place_read(text):
    if text == "":
        return None
    # Asked of the text, as Python itself refuses to make numbers of very many figures.
    if len(figures_of(text)) > MOST_FIGURES:
        raise BadText(f"a place is written in at most {MOST_FIGURES} figures")
    try:
        place = int(text)
    except ValueError:
        raise BadText("a place is written in figures") from None
    return place


def is_value(text):
    return 1 <= len(text) <= LONGEST_VALUE and all(["a" <= letter <= "z" for letter in text])


def run_read(text):
    words = text.split(" ")
    if len(words) != 2 or not is_value(words[1]):
        raise BadText("a run is written as its places, one blank and its value")
    ends = words[0].split("..")
    if len(ends) != 2:
        raise BadText("two points stand once between start and end")
    return (place_read(ends[0]), place_read(ends[1]), words[1])


def check_order(found):
    for start, end, value in found:
        if start is not None and end is not None and end <= start:
            raise BadText("a run has places")
    for ahead, behind in zip(found, found[1:]):
        if ahead[1] is None or behind[0] is None or behind[0] < ahead[1]:
            raise BadText("the runs stand in order, none over another")


def line_through(found):
    cuts = []
    holds = [None]
    for start, end, value in found:
        if start is None:
            holds = [value]
        else:
            cuts.append(start)
            holds.append(value)
        if end is not None:
            cuts.append(end)
            holds.append(None)
    return line_of(cuts, holds)


def read(text):
    if text == "":
        return empty_line()
    found = [run_read(part) for part in text.split(", ")]
    check_order(found)
    line = line_through(found)
    # Python reads places that are not written so (+1, 007, 1_0), and runs that
    # touch may be one: only the text that the line itself is written as is let.
    if shown(line) != text:
        raise BadText("a line is written in one way alone")
    return line
