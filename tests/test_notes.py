import unittest
from itertools import product

from cutline.asks import first_room
from cutline.deeds import closed, opened, put
from cutline.errors import BadText
from cutline.lines import Line, empty_line, line_of, same, value_at
from cutline.notes import read, shown
from tests.oracle import NEAR, is_written, tellings, told, written

FAR = 10 ** 29 + 7
SIXTY = 10 ** 60 - 1

# A text and the line that it is written of.
WRITTEN = (
    ("", [], [None]),
    ("0..5 a", [0, 5], [None, "a", None]),
    ("-3..-1 a", [-3, -1], [None, "a", None]),
    ("-1..0 a", [-1, 0], [None, "a", None]),
    (".. a", [], ["a"]),
    ("..0 a", [0], ["a", None]),
    ("0.. a", [0], [None, "a"]),
    ("..-7 a, -7..10 b, 10.. c", [-7, 10], ["a", "b", "c"]),
    ("..-7 a, 10.. a", [-7, 10], ["a", None, "a"]),
    ("0..5 a, 5..6 b, 8..100 a", [0, 5, 6, 8, 100], [None, "a", "b", None, "a", None]),
    ("0..1 abcdefghijkl", [0, 1], [None, "abcdefghijkl", None]),
    ("0..1 mnopqrstuvwx, 1..2 yz", [0, 1, 2], [None, "mnopqrstuvwx", "yz", None]),
    ("-100000000000000000000000000007..100000000000000000000000000007 far",
     [-FAR, FAR], [None, "far", None]),
    ("-" + "9" * 60 + ".." + "9" * 60 + " a", [-SIXTY, SIXTY], [None, "a", None]),
    ("0.." + "9" * 60 + " none", [0, SIXTY], [None, "none", None]),
)

REFUSED = (
    # needless noughts, and signs ahead of a place
    "00..5 a", "01..5 a", "0..05 a", "-01..5 a", "-0..5 a", "-5..-0 a", "+0..5 a", "0..+5 a",
    "--1..5 a", "-..5 a", "0..- a", "0..5- a", "1_0..20 a", "0x1..5 a", "1e1..20 a",
    # blanks, commas and points
    " ", " 0..5 a", "0..5 a ", "0..5  a", "0 ..5 a", "0.. 5 a", "0. .5 a", "0..5a", "0..5",
    "0...5 a", "0.5 a", "0..5..9 a", "05 a", "a", "..", ".. ", "..a", "5 a", "0..5 a b", "0..5 a, ",
    "0..5 a,", ", 0..5 a", ",0..5 a", ",", ", ", "0..5 a,6..7 b", "0..5 a,  6..7 b",
    "0..5 a , 6..7 b", "0..5 a 6..7 b", "0..5 a, , 6..7 b", "0..5 a; 6..7 b", "0..5 a,, 6..7 b",
    # runs of no places
    "5..5 a", "5..3 a", "0..0 a", "-1..-2 a", "0..5 a, 5..5 b", "0..5 a, 5..5 b, 5..6 c",
    # runs that touch with the same value
    "0..5 a, 5..9 a", "..0 a, 0.. a", "..0 a, 0..5 a", "0..5 a, 5.. a",
    # wrong order, runs over one another, missing ends between runs
    "5..9 a, 0..3 b", "0..5 a, 4..9 b", "0..5 a, 4..9 a", "0..9 a, 3..5 b", "0..5 a, 0..5 a",
    "0..5 a, 0..5 b", "0.. a, 5..9 b", "0..5 a, ..9 b", ".. a, .. b", ".. a, 0..5 b",
    "0..5 a, .. b", "..5 a, ..9 b", "0.. a, 5.. b", "-1..2 a, -5..-3 b", "9..10 a, 10..9 b",
    # values
    "0..5 ", "0..5 abcdefghijklm", "0..5 A", "0..5 aB", "0..5 a1", "0..5 1", "0..5 a-b", "0..5 a_b",
    "0..5 a.b", "0..5 None", "0..5 none, 5..6 NONE", "0..5 a,", "0..5 ,", "0..5 'a'", "0..5 {",
    "0..5 `", "0..5 a~", "None", "None..5 a", "0..None a",
    # line ends
    "\n", "0..5 a\n", "\n0..5 a", "0..5\na", "0..5 a,\n6..7 b", "0..5 a\n, 6..7 b", "0\n..5 a",
    "0..\n5 a", "0..5\n a", "0..5 a\n6..7 b", "0..5 a, \n6..7 b", "0..5 a, 6..7 b\n", "0..5 a\r\n",
    "\r", "0..5 a\r",
)


class NotesTest(unittest.TestCase):
    def check(self, line, cuts, holds):
        self.assertIsInstance(line, Line)
        self.assertEqual((line.cuts, line.holds), (cuts, holds))

    def refuses(self, text):
        try:
            read(text)
        except BadText:
            return True
        return False


class Shown(NotesTest):
    def test_lines_told_by_hand(self):
        for text, cuts, holds in WRITTEN:
            self.assertEqual(shown(line_of(cuts, holds)), text)

    def test_the_text_does_not_hang_on_how_the_line_was_told(self):
        self.assertEqual(shown(line_of([0, 2, 2, 5], [None, "a", "b", "a", None])), "0..5 a")

    def test_somewhat_more_figures_than_sixty(self):
        line = line_of([-10 ** 75, 10 ** 80], ["a", None, "b"])
        self.assertEqual(shown(line), "..-1" + "0" * 75 + " a, 1" + "0" * 80 + ".. b")

    def test_the_line_stays(self):
        line = line_of([0, 5], ["b", "a", None])
        shown(line)
        self.check(line, [0, 5], ["b", "a", None])

    def test_small_lines_against_the_oracle(self):
        for cuts, holds in tellings((-2, 0, 3), (None, "a", "b"), 3):
            self.assertEqual(shown(line_of(cuts, holds)), written(told(cuts, holds), NEAR[50:71]))


class Read(NotesTest):
    def test_texts_told_by_hand(self):
        for text, cuts, holds in WRITTEN:
            self.check(read(text), cuts, holds)

    def test_what_is_written_is_read_to_the_same_line(self):
        for cuts, holds in tellings((-12, 0, 7), (None, "a", "bc"), 3):
            line = line_of(cuts, holds)
            self.assertTrue(same(read(shown(line)), line))

    def test_a_long_line(self):
        line = line_of(list(range(-30000, 30000, 3)), [None] + ["a", "b", None, "c"] * 5000)
        self.assertTrue(same(read(shown(line)), line))

    def test_each_line_read_has_lists_of_its_own(self):
        for text in ("", "0..5 a"):
            one = read(text)
            self.assertIsNot(one.cuts, read(text).cuts)
            self.assertIsNot(one.holds, read(text).holds)
        self.assertTrue(same(read(""), empty_line()))


class Refused(NotesTest):
    def test_texts_told_by_hand(self):
        for text in REFUSED:
            self.assertTrue(self.refuses(text), repr(text))
            self.assertFalse(is_written(text), repr(text))

    def test_each_sign_alone_and_in_a_value(self):
        for number in [10] + list(range(32, 127)):
            sign = chr(number)
            self.assertTrue(self.refuses(sign), repr(sign))
            self.assertEqual(self.refuses("0..5 a" + sign), not "a" <= sign <= "z", repr(sign))
            self.assertEqual(self.refuses(sign + "..50 a"), not "0" <= sign <= "9", repr(sign))

    def test_all_short_texts(self):
        for count in range(7):
            for signs in product("01-., a\n", repeat=count):
                text = "".join(signs)
                self.assertEqual(self.refuses(text), not is_written(text), repr(text))

    def test_texts_that_are_one_sign_off(self):
        for text in ("..-10 a, -10..0 b, 20..31 abcdefghijkl, 200.. a", "-2..-1 a, 1..2 a", "..0 ab, 1.. b"):
            for place in range(len(text) + 1):
                for sign in "019-+., abz_A\n":
                    for other in (text[:place] + sign + text[place:],
                                  text[:place] + sign + text[place + 1:],
                                  text[:place] + text[place + 1:]):
                        self.assertEqual(self.refuses(other), not is_written(other), repr(other))

    def test_whatever_is_read_is_written_so(self):
        pieces = ("0", "1", "-1", "-0", "..", " a", " b", ", ", "")
        for parts in product(pieces, repeat=6):
            text = "".join(parts)
            if not self.refuses(text):
                self.assertEqual(shown(read(text)), text)


def around(place):
    """Tellings of lines with a cut at a far place: at a start and at an end, in the first run and in a later one."""
    yield [place], [None, "a"]
    yield [place], ["a", None]
    yield [place], ["a", "b"]
    if place > 0:
        yield [0, place], [None, "a", None]
        yield [-5, -3, place], [None, "a", None, "b"]
        yield [-5, -3, place], ["a", None, "b", None]
        yield [-5, 0, 3, place], [None, "a", None, "b", None]
        yield [-5, 3, place - 1, place], ["a", None, "b", "a", None]
        yield [place - 1, place], ["a", None, "b"]
    else:
        yield [place, 0], [None, "a", None]
        yield [place, 3, 5], [None, "a", None, "b"]
        yield [place, 3, 5], ["a", None, "b", None]
        yield [place, 0, 3, 5], [None, "a", None, "b", None]
        yield [place, place + 1, 3], ["a", None, "b", None]
        yield [place, place + 1, place + 2], ["a", None, "b", None]


class LongPlaces(NotesTest):
    def check_figures(self, count, is_let):
        for place in (10 ** (count - 1), 10 ** count - 1):
            for signed in (place, -place):
                for cuts, holds in around(signed):
                    text = shown(line_of(cuts, holds))
                    self.assertIn(str(signed), text)
                    self.assertEqual(is_written(text), is_let, text)
                    self.assertEqual(self.refuses(text), not is_let, text)
                    if is_let:
                        self.check(read(text), cuts, holds)

    def test_fifty_nine_figures_are_read(self):
        self.check_figures(59, True)

    def test_sixty_figures_are_read(self):
        self.check_figures(60, True)

    def test_sixty_one_figures_are_refused(self):
        self.check_figures(61, False)

    def test_many_more_figures_are_refused(self):
        for count in (62, 100, 900, 4000):
            self.check_figures(count, False)

    def test_more_figures_than_python_makes_numbers_of_are_refused(self):
        long = "1" + "0" * 9999
        for text in (long + ".. a", ".." + long + " a", "-" + long + ".. a", "..-" + long + " a",
                     "0..1 a, " + long + ".. b"):
            self.assertTrue(self.refuses(text))

    def test_the_text_of_the_fault(self):
        self.assertTrue(self.refuses("-1000..-996 a, 1" + "0" * 60 + ".. a"))
        self.check(read("-1000..-996 a, 1" + "0" * 59 + ".. a"), [-1000, -996, 10 ** 59], [None, "a", None, "a"])

    def test_texts_written_out(self):
        for first, let in (("9" * 59, True), ("9" * 60, True), ("9" * 61, False)):
            for text in ("-" + first + ".." + first + " a",
                         "-" + first + "..-7 a, 7.." + first + " a",
                         ".." + first + " a",
                         "-" + first + ".. a",
                         "..-" + first + " a, -" + first + ".." + first + " b, " + first + ".. a",
                         "-" + "9" * 60 + "..0 a, 0.." + first + " b",
                         "-" + first + "..0 a, 0.." + "9" * 60 + " b"):
                self.assertEqual(not self.refuses(text), let, text)

    def test_sixty_one_signs_that_are_no_place(self):
        for signs in ("0" * 61, "0" + "9" * 60, "-0" + "9" * 59, "-0" + "9" * 60, "--" + "9" * 59, "--" + "9" * 60,
                      "+" + "9" * 59, "+" + "9" * 60, "-" + "0" * 60):
            for text in (signs + ".. a", ".." + signs + " a"):
                self.assertTrue(self.refuses(text), text)

    def test_the_number_of_figures_counts_a_place_not_the_text(self):
        line = line_of([-SIXTY, -SIXTY + 1, SIXTY - 1, SIXTY], ["a", "b", None, "c", None])
        self.check(read(shown(line)), line.cuts, line.holds)

    def test_a_line_with_a_long_place_is_refused_by_nothing_else(self):
        far = 10 ** 60
        line = put(read("..0 a, 5..9 b"), far, far + 1, "c")
        self.assertEqual(shown(line), f"..0 a, 5..9 b, {far}..{far + 1} c")
        self.assertEqual(value_at(line, far), "c")
        self.assertEqual(first_room(line, "c", 9, 1), far)
        near = opened(closed(line, 0, far), 0, 9)
        self.assertEqual(shown(near), "..0 a, 9..10 c")
        self.assertTrue(same(read(shown(near)), near))
