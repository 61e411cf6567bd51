import unittest
from itertools import product

from cutline.deeds import carried, closed, done, opened, put, stretched
from cutline.errors import BadDeed
from cutline.lines import Line, empty_line, line_of, same, value_at
from tests.oracle import NEAR, after, deeds, form, tellings, told

HUGE = 10 ** 5000


class LineTest(unittest.TestCase):
    def check(self, line, cuts, holds):
        self.assertIsInstance(line, Line)
        self.assertEqual((line.cuts, line.holds), (cuts, holds))


class Put(LineTest):
    def setUp(self):
        self.line = line_of([0, 4, 8], [None, "a", "b", None])

    def test_within_a_run(self):
        self.check(put(self.line, 1, 3, "c"), [0, 1, 3, 4, 8], [None, "a", "c", "a", "b", None])

    def test_over_a_cut(self):
        self.check(put(self.line, 2, 6, "c"), [0, 2, 6, 8], [None, "a", "c", "b", None])

    def test_just_from_cut_to_cut(self):
        self.check(put(self.line, 4, 8, "c"), [0, 4, 8], [None, "a", "c", None])
        self.check(put(self.line, 4, 8, "a"), [0, 8], [None, "a", None])
        self.check(put(self.line, 4, 8, None), [0, 4], [None, "a", None])

    def test_the_value_of_the_neighbour(self):
        self.check(put(self.line, 4, 6, "a"), [0, 6, 8], [None, "a", "b", None])
        self.check(put(self.line, 2, 4, "b"), [0, 2, 8], [None, "a", "b", None])

    def test_what_is_held_already(self):
        self.check(put(self.line, 1, 3, "a"), [0, 4, 8], [None, "a", "b", None])

    def test_one_place(self):
        self.check(put(empty_line(), -1, 0, "a"), [-1, 0], [None, "a", None])

    def test_without_a_start(self):
        self.check(put(self.line, None, 4, "c"), [4, 8], ["c", "b", None])
        self.check(put(self.line, None, -5, "c"), [-5, 0, 4, 8], ["c", None, "a", "b", None])

    def test_without_an_end(self):
        self.check(put(self.line, 4, None, "c"), [0, 4], [None, "a", "c"])
        self.check(put(self.line, 9, None, "c"), [0, 4, 8, 9], [None, "a", "b", None, "c"])

    def test_without_both(self):
        self.check(put(self.line, None, None, "c"), [], ["c"])
        self.check(put(self.line, None, None, None), [], [None])

    def test_without_places(self):
        for start, end in ((2, 2), (5, 2), (4, 4), (0, 0), (8, 0), (-HUGE, -HUGE), (HUGE, -HUGE)):
            self.check(put(self.line, start, end, "c"), [0, 4, 8], [None, "a", "b", None])

    def test_places_of_many_figures(self):
        self.check(put(self.line, -HUGE, HUGE, "c"), [-HUGE, HUGE], [None, "c", None])
        self.check(put(self.line, HUGE, HUGE + 1, "c"),
                   [0, 4, 8, HUGE, HUGE + 1], [None, "a", "b", None, "c", None])

    def test_nothing_hangs_on_what_was_put(self):
        thing = [1]
        line = put(empty_line(), 0, 2, thing)
        thing.append(2)
        self.check(line, [0, 2], [None, [1], None])


class Opened(LineTest):
    def setUp(self):
        self.line = line_of([0, 4], [None, "a", "b"])

    def test_within_a_run(self):
        self.check(opened(self.line, 2, 3), [0, 2, 5, 7], [None, "a", None, "a", "b"])

    def test_at_a_cut(self):
        self.check(opened(self.line, 4, 3), [0, 4, 7], [None, "a", None, "b"])

    def test_just_ahead_of_and_behind_a_cut(self):
        self.check(opened(self.line, 3, 1), [0, 3, 4, 5], [None, "a", None, "a", "b"])
        self.check(opened(self.line, 5, 1), [0, 4, 5, 6], [None, "a", "b", None, "b"])

    def test_where_none_is_held(self):
        self.check(opened(self.line, -9, 2), [2, 6], [None, "a", "b"])
        self.check(opened(self.line, 0, 2), [2, 6], [None, "a", "b"])
        self.check(opened(empty_line(), 0, 5), [], [None])

    def test_size_nought(self):
        for place in (-1, 0, 1, 3, 4, 5, HUGE):
            self.check(opened(self.line, place, 0), [0, 4], [None, "a", "b"])

    def test_many_figures(self):
        self.check(opened(self.line, 1, HUGE), [0, 1, HUGE + 1, HUGE + 4],
                   [None, "a", None, "a", "b"])
        self.check(opened(self.line, -HUGE, 1), [1, 5], [None, "a", "b"])

    def test_a_size_below_nought_is_refused(self):
        for size in (-1, -2, -HUGE):
            with self.assertRaises(BadDeed):
                opened(self.line, 2, size)
            with self.assertRaises(BadDeed):
                opened(empty_line(), 0, size)


class Closed(LineTest):
    def setUp(self):
        self.line = line_of([0, 4, 8], [None, "a", "b", None])

    def test_within_a_run(self):
        self.check(closed(self.line, 1, 2), [0, 2, 6], [None, "a", "b", None])

    def test_over_a_cut(self):
        self.check(closed(self.line, 3, 2), [0, 3, 6], [None, "a", "b", None])

    def test_a_whole_run(self):
        self.check(closed(self.line, 4, 4), [0, 4], [None, "a", None])
        self.check(closed(self.line, 0, 8), [], [None])

    def test_up_to_a_cut_and_from_a_cut(self):
        self.check(closed(self.line, 2, 2), [0, 2, 6], [None, "a", "b", None])
        self.check(closed(self.line, 4, 1), [0, 4, 7], [None, "a", "b", None])

    def test_what_meets_and_is_alike_is_one_run(self):
        line = line_of([0, 2, 4, 6], [None, "a", "b", "a", None])
        self.check(closed(line, 2, 2), [0, 4], [None, "a", None])
        self.check(closed(line, 1, 4), [0, 2], [None, "a", None])

    def test_ahead_of_and_behind_all(self):
        self.check(closed(self.line, -5, 2), [-2, 2, 6], [None, "a", "b", None])
        self.check(closed(self.line, 8, 5), [0, 4, 8], [None, "a", "b", None])

    def test_size_nought(self):
        for place in (-1, 0, 1, 4, 8, 9, -HUGE):
            self.check(closed(self.line, place, 0), [0, 4, 8], [None, "a", "b", None])

    def test_many_figures(self):
        self.check(closed(self.line, 2, HUGE), [0, 2], [None, "a", None])
        self.check(closed(self.line, -HUGE, HUGE), [-HUGE, 4 - HUGE, 8 - HUGE],
                   [None, "a", "b", None])

    def test_a_size_below_nought_is_refused(self):
        for size in (-1, -2, -HUGE):
            with self.assertRaises(BadDeed):
                closed(self.line, 2, size)
            with self.assertRaises(BadDeed):
                closed(empty_line(), 0, size)


class Stretched(LineTest):
    def setUp(self):
        self.line = line_of([-2, 0, 3], [None, "a", "b", None])

    def test_each_place_becomes_so_many(self):
        self.check(stretched(self.line, 2), [-4, 0, 6], [None, "a", "b", None])
        line = stretched(self.line, 3)
        for place in range(-4, 6):
            for behind in range(3):
                self.assertEqual(value_at(line, 3 * place + behind), value_at(self.line, place))

    def test_a_line_without_cuts(self):
        self.check(stretched(line_of([], ["a"]), 5), [], ["a"])

    def test_times_one(self):
        self.check(stretched(self.line, 1), [-2, 0, 3], [None, "a", "b", None])

    def test_many_figures(self):
        self.check(stretched(self.line, HUGE), [-2 * HUGE, 0, 3 * HUGE], [None, "a", "b", None])

    def test_times_below_one_are_refused(self):
        for times in (0, -1, -HUGE):
            with self.assertRaises(BadDeed):
                stretched(self.line, times)
            with self.assertRaises(BadDeed):
                stretched(empty_line(), times)


class Done(LineTest):
    def setUp(self):
        self.line = line_of([0, 4], [None, "a", "b"])

    def test_each_word(self):
        self.check(done(self.line, ("put", 1, 2, "c")), [0, 1, 2, 4], [None, "a", "c", "a", "b"])
        self.check(done(self.line, ("put", None, 2, None)), [2, 4], [None, "a", "b"])
        self.check(done(self.line, ("open", 2, 3)), [0, 2, 5, 7], [None, "a", None, "a", "b"])
        self.check(done(self.line, ("close", 2, 3)), [0, 2], [None, "a", "b"])
        self.check(done(self.line, ("stretch", 3)), [0, 12], [None, "a", "b"])

    def test_size_nought_and_times_one(self):
        for deed in (("open", 2, 0), ("close", 2, 0), ("open", 4, 0), ("close", 4, 0), ("stretch", 1)):
            self.check(done(self.line, deed), [0, 4], [None, "a", "b"])

    def test_sizes_and_times_that_are_refused(self):
        for deed in (("open", 2, -1), ("close", 2, -1), ("open", 0, -HUGE), ("close", 0, -HUGE),
                     ("stretch", 0), ("stretch", -1), ("stretch", -HUGE)):
            with self.assertRaises(BadDeed):
                done(self.line, deed)

    def test_other_words_are_refused(self):
        for deed in (("mark", "here", 3), ("", 1, 2), ("Put", 1, 2, "a"), ("OPEN", 1, 2),
                     ("opened", 1, 2), ("clos", 1, 2), ("stretched", 2), ("put ", 1, 2, "a"),
                     ("undo",)):
            with self.assertRaises(BadDeed):
                done(self.line, deed)

    def test_what_is_refused_changes_nothing(self):
        for deed in (("open", 2, -1), ("close", 2, -1), ("stretch", 0), ("turn", 1)):
            with self.assertRaises(BadDeed):
                done(self.line, deed)
            self.check(self.line, [0, 4], [None, "a", "b"])


class EveryDeed(LineTest):
    POOL = deeds(range(-2, 4), range(0, 4), range(1, 4), (None, "a"))

    def test_all_small_lines_and_deeds_against_the_oracle(self):
        window = NEAR[45:76]
        for cuts, holds in tellings((-1, 0, 2), (None, "a", "b"), 2):
            at = told(cuts, holds)
            line = line_of(cuts, holds)
            for deed in self.POOL:
                behind = done(line, deed)
                self.assertEqual((behind.cuts, behind.holds), form(after(at, deed), window),
                                 (cuts, holds, deed))

    def test_the_line_handed_in_stays_and_shares_no_list(self):
        line = line_of([-1, 0, 2], ["b", "a", None, "b"])
        for deed in self.POOL:
            behind = done(line, deed)
            self.check(line, [-1, 0, 2], ["b", "a", None, "b"])
            self.assertIsNot(behind.cuts, line.cuts)
            self.assertIsNot(behind.holds, line.holds)

    def test_the_deeds_own_functions_tell_what_done_tells(self):
        line = line_of([-1, 0, 2], ["b", "a", None, "b"])
        own = {"put": put, "open": opened, "close": closed, "stretch": stretched}
        for deed in self.POOL:
            self.assertTrue(same(own[deed[0]](line, *deed[1:]), done(line, deed)))


class Rows(LineTest):
    def test_a_row_told_by_hand(self):
        line = empty_line()
        for deed, cuts, holds in (
            (("put", 0, 10, "a"), [0, 10], [None, "a", None]),
            (("put", 5, None, "b"), [0, 5], [None, "a", "b"]),
            (("open", 5, 2), [0, 5, 7], [None, "a", None, "b"]),
            (("stretch", 3), [0, 15, 21], [None, "a", None, "b"]),
            (("put", None, -6, "c"), [-6, 0, 15, 21], ["c", None, "a", None, "b"]),
            (("close", -7, 8), [-7, 7, 13], ["c", "a", None, "b"]),
            (("put", 7, 13, "a"), [-7, 13], ["c", "a", "b"]),
            (("close", -7, 20), [-7], ["c", "b"]),
            (("put", -7, None, "c"), [], ["c"]),
            (("put", None, None, None), [], [None]),
        ):
            line = done(line, deed)
            self.check(line, cuts, holds)

    def test_all_short_rows_against_the_oracle(self):
        pool = (("put", None, 1, "a"), ("put", -2, None, "b"), ("put", -1, 2, "a"),
                ("put", 0, 3, None), ("put", 2, 1, "b"), ("open", 0, 2), ("open", 1, 0),
                ("close", -1, 2), ("close", 1, 1), ("stretch", 2), ("stretch", 1))
        for row in product(pool, repeat=3):
            line = empty_line()
            at = told([], [None])
            for deed in row:
                line = done(line, deed)
                at = after(at, deed)
            self.assertEqual((line.cuts, line.holds), form(at, NEAR[30:91]), row)

    def test_long_rows_against_the_oracle(self):
        for first in range(12):
            line = empty_line()
            at = told([], [None])
            for number in range(first, first + 40):
                deed = self.numbered(number)
                line = done(line, deed)
                at = after(at, deed)
                self.assertEqual((line.cuts, line.holds), form(at), (first, number))

    def numbered(self, number):
        # Steps that share no divisor, so that the row does not soon come round again.
        place = number * 7 % 23 - 11
        if number % 5 == 3:
            return ("open", place, number % 3)
        if number % 5 == 4:
            return ("close", place, number % 4)
        if number % 11 == 5:
            return ("put", None, place, ("a", None)[number % 2])
        if number % 13 == 6:
            return ("put", place, None, ("b", None)[number % 2])
        return ("put", place, place + number % 9, ("a", "b", "c", None)[number * 3 % 4])

    def test_a_row_of_stretches_and_puts_far_out(self):
        line = put(empty_line(), -1, 1, "a")
        for times in range(200):
            line = done(line, ("stretch", 10))
        line = done(line, ("put", -1, 1, "b"))
        self.check(line, [-10 ** 200, -1, 1, 10 ** 200], [None, "a", "b", "a", None])


class Carried(unittest.TestCase):
    def test_opening(self):
        for place, to in ((-5, -5), (2, 2), (3, 7), (4, 8), (HUGE, HUGE + 4), (-HUGE, -HUGE)):
            self.assertEqual(carried(place, ("open", 3, 4)), to)

    def test_closing(self):
        for place, to in ((-5, -5), (2, 2), (3, 3), (4, 3), (6, 3), (7, 3), (8, 4), (9, 5),
                          (HUGE, HUGE - 4), (-HUGE, -HUGE)):
            self.assertEqual(carried(place, ("close", 3, 4)), to)

    def test_below_nought(self):
        for place, to in ((-4, -4), (-3, -1), (-2, 0), (0, 2)):
            self.assertEqual(carried(place, ("open", -3, 2)), to)
        for place, to in ((-4, -4), (-3, -3), (-2, -3), (-1, -3), (0, -2)):
            self.assertEqual(carried(place, ("close", -3, 2)), to)

    def test_stretching(self):
        for place, to in ((-2, -6), (-1, -3), (0, 0), (1, 3), (5, 15), (HUGE, 3 * HUGE)):
            self.assertEqual(carried(place, ("stretch", 3)), to)

    def test_putting(self):
        for deed in (("put", 0, 9, "a"), ("put", None, None, None), ("put", 5, 2, "a")):
            for place in (-HUGE, -1, 0, 4, 9, 10, HUGE):
                self.assertEqual(carried(place, deed), place)

    def test_size_nought_and_times_one(self):
        for deed in (("open", 3, 0), ("close", 3, 0), ("stretch", 1)):
            for place in (-HUGE, -3, 2, 3, 4, HUGE):
                self.assertEqual(carried(place, deed), place)

    def test_what_stays_on_the_line_is_carried_with_it(self):
        line = line_of(list(range(-6, 7)), list("abcdefghijklmn"))
        for deed in deeds(range(-3, 4), range(0, 4), range(1, 4), ()):
            for place in range(-8, 9):
                goes = deed[0] == "close" and deed[1] <= place < deed[1] + deed[2]
                if not goes:
                    held = value_at(done(line, deed), carried(place, deed))
                    self.assertEqual(held, value_at(line, place), (place, deed))

    def test_other_deeds_are_refused(self):
        for deed in (("mark", "here", 3), ("turn", 1), ("open", 2, -1), ("close", 2, -1),
                     ("stretch", 0)):
            with self.assertRaises(BadDeed):
                carried(2, deed)
