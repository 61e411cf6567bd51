import unittest

from cutline.lines import Line, empty_line, line_of, same, value_at
from tests.oracle import NEAR, form, tellings, told

HUGE = 10 ** 5000


class LineOf(unittest.TestCase):
    def check(self, cuts, holds, form_cuts, form_holds):
        line = line_of(cuts, holds)
        self.assertIsInstance(line, Line)
        self.assertIsInstance(line.cuts, list)
        self.assertIsInstance(line.holds, list)
        self.assertEqual((line.cuts, line.holds), (form_cuts, form_holds))

    def test_a_telling_that_is_the_form_already(self):
        self.check([2, 5], [None, "a", None], [2, 5], [None, "a", None])

    def test_no_cuts(self):
        self.check([], [None], [], [None])
        self.check([], ["a"], [], ["a"])

    def test_holds_alike_on_both_sides_of_a_cut(self):
        self.check([3], ["a", "a"], [], ["a"])
        self.check([1, 2, 3], [None, "a", "a", None], [1, 3], [None, "a", None])
        self.check([1, 2, 3], ["a", "a", "a", "b"], [3], ["a", "b"])

    def test_of_cuts_alike_the_last_counts(self):
        self.check([2, 2], [None, "a", "b"], [2], [None, "b"])
        self.check([2, 2, 2, 4], [None, "a", "b", "c", None], [2, 4], [None, "c", None])

    def test_cuts_alike_that_come_back_to_what_was_ahead(self):
        self.check([2, 2], ["a", "b", "a"], [], ["a"])
        self.check([0, 2, 2, 4], [None, "a", "b", "a", "c"], [0, 4], [None, "a", "c"])

    def test_cuts_alike_where_the_one_between_is_as_ahead(self):
        self.check([2, 2], ["a", "a", "b"], [2], ["a", "b"])

    def test_cuts_of_many_figures_and_below_nought(self):
        self.check([-HUGE, -1, HUGE, HUGE], [None, "a", "b", "c", "d"],
                   [-HUGE, -1, HUGE], [None, "a", "b", "d"])

    def test_cuts_of_many_figures_that_differ_by_one(self):
        self.check([HUGE, HUGE + 1], [None, "a", None], [HUGE, HUGE + 1], [None, "a", None])

    def test_holds_of_other_kinds(self):
        self.check([1, 2, 3], [("a", None), ("a", None), (None, "b"), 7],
                   [2, 3], [("a", None), (None, "b"), 7])
        self.check([1, 2], [[1], [1], [2]], [2], [[1], [2]])
        self.check([1, 2], [{"a": 1}, {"a": 2}, {"a": 2}], [1], [{"a": 1}, {"a": 2}])

    def test_an_object_that_is_held_is_that_object(self):
        thing = object()
        self.check([0], [None, thing], [0], [None, thing])

    def test_all_small_tellings(self):
        for cuts, holds in tellings(range(-1, 3), (None, "a", "b"), 3):
            line = line_of(cuts, holds)
            self.assertEqual((line.cuts, line.holds), form(told(cuts, holds), NEAR[50:70]))

    def test_what_is_handed_in_stays(self):
        cuts = [2, 2, 3, 5]
        holds = [None, "a", "b", "b", None]
        line_of(cuts, holds)
        self.assertEqual(cuts, [2, 2, 3, 5])
        self.assertEqual(holds, [None, "a", "b", "b", None])

    def test_nothing_hangs_on_what_is_handed_in(self):
        cuts = [2, 5]
        holds = [None, "a", None]
        line = line_of(cuts, holds)
        cuts.append(9)
        cuts[0] = 4
        holds[1] = "b"
        holds.append("c")
        self.assertEqual((line.cuts, line.holds), ([2, 5], [None, "a", None]))

    def test_nothing_hangs_on_the_parts_of_a_hold(self):
        parts = [1]
        line = line_of([0, 1, 2], [parts, (parts, 0), {"a": parts}, None])
        parts.append(2)
        self.assertEqual(line.holds, [[1], ([1], 0), {"a": [1]}, None])


class EmptyLine(unittest.TestCase):
    def test_its_form(self):
        line = empty_line()
        self.assertIsInstance(line, Line)
        self.assertEqual((line.cuts, line.holds), ([], [None]))

    def test_none_everywhere(self):
        for place in (-HUGE, -1, 0, 1, HUGE):
            self.assertIsNone(value_at(empty_line(), place))

    def test_each_one_has_lists_of_its_own(self):
        one = empty_line()
        other = empty_line()
        self.assertIsNot(one.cuts, other.cuts)
        self.assertIsNot(one.holds, other.holds)


class ValueAt(unittest.TestCase):
    def test_ahead_of_at_and_behind_each_cut(self):
        line = line_of([-3, 0, 4], ["a", None, "b", "c"])
        held = [value_at(line, place) for place in range(-5, 7)]
        self.assertEqual(held, ["a"] * 2 + [None] * 3 + ["b"] * 4 + ["c"] * 3)

    def test_a_line_without_cuts(self):
        self.assertEqual(value_at(line_of([], ["a"]), -7), "a")

    def test_places_of_many_figures(self):
        line = line_of([-HUGE, HUGE], ["a", None, "b"])
        places = (-HUGE - 1, -HUGE, -HUGE + 1, HUGE - 1, HUGE, HUGE + 1)
        held = [value_at(line, place) for place in places]
        self.assertEqual(held, ["a", None, None, None, "b", "b"])

    def test_all_small_tellings(self):
        for cuts, holds in tellings(range(-1, 2), (None, "a", "b"), 3):
            line = line_of(cuts, holds)
            at = told(cuts, holds)
            for place in range(-3, 4):
                self.assertEqual(value_at(line, place), at(place))

    def test_a_line_of_many_cuts(self):
        line = line_of(list(range(0, 300, 3)), [None] + ["a", "b"] * 50)
        for place in range(0, 300):
            self.assertEqual(value_at(line, place), "ab"[place // 3 % 2])
        self.assertIsNone(value_at(line, -1))
        self.assertEqual(value_at(line, 1000), "b")

    def test_a_list_handed_back_is_the_askers_own(self):
        line = line_of([0], [None, [1]])
        value_at(line, 5).append(2)
        self.assertEqual(value_at(line, 5), [1])


class Same(unittest.TestCase):
    def test_told_in_two_ways(self):
        one = line_of([1, 4], [None, "a", None])
        other = line_of([0, 1, 1, 2, 4], [None, None, "b", "a", "a", None])
        self.assertIs(same(one, other), True)
        self.assertIs(same(one, one), True)

    def test_unlike_at_one_place_or_at_many(self):
        one = line_of([1, 4], [None, "a", None])
        for cuts, holds in (
            ([1, 5], [None, "a", None]),
            ([1, 4], [None, "b", None]),
            ([1, 4], [None, "a", "b"]),
            ([1, 4], ["b", "a", None]),
            ([1], [None, "a"]),
            ([], [None]),
            ([1, 4, HUGE], [None, "a", None, "a"]),
        ):
            self.assertIs(same(one, line_of(cuts, holds)), False)
            self.assertIs(same(line_of(cuts, holds), one), False)

    def test_the_same_holds_elsewhere(self):
        self.assertIs(same(line_of([1], [None, "a"]), line_of([2], [None, "a"])), False)

    def test_lines_without_cuts(self):
        self.assertIs(same(empty_line(), line_of([3], [None, None])), True)
        self.assertIs(same(empty_line(), line_of([], ["a"])), False)

    def test_all_small_pairs(self):
        told_lines = list(tellings(range(0, 2), (None, "a"), 2))
        for one_cuts, one_holds in told_lines:
            for other_cuts, other_holds in told_lines:
                one_at = told(one_cuts, one_holds)
                other_at = told(other_cuts, other_holds)
                alike = all(one_at(p) == other_at(p) for p in range(-1, 3))
                answer = same(line_of(one_cuts, one_holds), line_of(other_cuts, other_holds))
                self.assertIs(answer, alike)

    def test_the_lines_stay(self):
        one = line_of([1, 4], [None, "a", None])
        other = line_of([1, 5], [None, "a", None])
        same(one, other)
        self.assertEqual((one.cuts, one.holds), ([1, 4], [None, "a", None]))
        self.assertEqual((other.cuts, other.holds), ([1, 5], [None, "a", None]))
