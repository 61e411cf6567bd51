import unittest

from cutline.asks import first_room, longest, parted, runs, tally
from cutline.errors import BadAsk
from cutline.lines import empty_line, line_of
from cutline.weaving import woven
from tests import oracle
from tests.oracle import tellings, told

HUGE = 10 ** 5000
FAR = 10 ** 29 + 7


class AskTest(unittest.TestCase):
    def setUp(self):
        self.line = line_of([-3, 0, 4, 6, 9], [None, "a", None, "b", "a", None])

    def tearDown(self):
        self.assertEqual((self.line.cuts, self.line.holds),
                         ([-3, 0, 4, 6, 9], [None, "a", None, "b", "a", None]))


class Runs(AskTest):
    def check(self, line, start, end, expected):
        found = runs(line, start, end)
        self.assertIs(found.__class__, list)
        for run in found:
            self.assertIs(run.__class__, tuple)
        self.assertEqual(found, expected)

    def test_over_several_cuts(self):
        self.check(self.line, -5, 12, [(-5, -3, None), (-3, 0, "a"), (0, 4, None), (4, 6, "b"),
                                       (6, 9, "a"), (9, 12, None)])

    def test_within_a_run(self):
        self.check(self.line, 1, 3, [(1, 3, None)])
        self.check(self.line, -100, -90, [(-100, -90, None)])
        self.check(self.line, 100, 101, [(100, 101, None)])

    def test_just_from_cut_to_cut(self):
        self.check(self.line, -3, 0, [(-3, 0, "a")])
        self.check(self.line, 4, 9, [(4, 6, "b"), (6, 9, "a")])

    def test_one_place_about_a_cut(self):
        self.check(self.line, 3, 4, [(3, 4, None)])
        self.check(self.line, 4, 5, [(4, 5, "b")])
        self.check(self.line, 3, 5, [(3, 4, None), (4, 5, "b")])

    def test_without_places(self):
        for start, end in ((0, 0), (4, 4), (5, 5), (9, -3), (1, 0), (HUGE, -HUGE), (FAR, FAR)):
            self.check(self.line, start, end, [])
            self.check(empty_line(), start, end, [])

    def test_a_line_without_cuts(self):
        self.check(empty_line(), -2, 3, [(-2, 3, None)])
        self.check(line_of([], ["a"]), -2, 3, [(-2, 3, "a")])

    def test_cuts_that_are_alike(self):
        line = line_of([1, 1, 3, 3], [None, "b", "a", "b", "a"])
        self.check(line, 0, 5, [(0, 1, None), (1, 5, "a")])

    def test_many_figures(self):
        line = line_of([-FAR, FAR], ["a", None, "b"])
        self.check(line, -FAR - 1, FAR + 1, [(-FAR - 1, -FAR, "a"), (-FAR, FAR, None), (FAR, FAR + 1, "b")])
        self.check(line, -HUGE, -FAR, [(-HUGE, -FAR, "a")])

    def test_other_kinds(self):
        line = line_of([0, 2], [("a", None), 7, [1]])
        self.check(line, -1, 3, [(-1, 0, ("a", None)), (0, 2, 7), (2, 3, [1])])

    def test_the_list_is_the_askers_own(self):
        first = runs(self.line, 0, 6)
        first.append("more")
        first[0] = None
        self.check(self.line, 0, 6, [(0, 4, None), (4, 6, "b")])

    def test_a_list_that_is_held_is_the_askers_own(self):
        line = line_of([0], [None, [1]])
        runs(line, 0, 2)[0][2].append(2)
        self.check(line, 0, 2, [(0, 2, [1])])


class Tally(AskTest):
    def test_each_thing(self):
        for value, count in (("a", 6), ("b", 2), (None, 9), ("c", 0)):
            self.assertEqual(tally(self.line, value, -5, 12), count)

    def test_parts_of_runs(self):
        self.assertEqual(tally(self.line, "a", -1, 8), 3)
        self.assertEqual(tally(self.line, None, 3, 10), 2)

    def test_without_places(self):
        for start, end in ((-1, -1), (0, 0), (5, 1), (HUGE, -HUGE)):
            for value in ("a", "b", None):
                self.assertEqual(tally(self.line, value, start, end), 0)

    def test_lines_without_cuts(self):
        self.assertEqual(tally(empty_line(), None, -4, 5), 9)
        self.assertEqual(tally(empty_line(), "a", -4, 5), 0)
        self.assertEqual(tally(line_of([], ["a"]), "a", -4, 5), 9)

    def test_many_figures(self):
        line = line_of([-FAR, 0, FAR], [None, "a", "b", "a"])
        self.assertEqual(tally(line, "a", -2 * FAR, 3 * FAR), 3 * FAR)
        self.assertEqual(tally(line, "b", -HUGE, HUGE), FAR)
        self.assertEqual(tally(line, "a", -HUGE, HUGE), HUGE)

    def test_other_kinds(self):
        line = woven([line_of([0], [None, "a"]), line_of([2], ["b", None])])
        self.assertEqual(tally(line, ("a", "b"), -5, 5), 2)
        self.assertEqual(tally(line, (None, None), -5, 5), 0)
        self.assertEqual(tally(line_of([0, 2], [[], [1], []]), [1], -5, 5), 2)


class Longest(AskTest):
    def test_ordinary(self):
        self.assertEqual(longest(self.line, None, -5, 12), (0, 4))
        self.assertEqual(longest(self.line, "b", -5, 12), (4, 2))

    def test_of_runs_as_long_the_first(self):
        self.assertEqual(longest(self.line, "a", -5, 12), (-3, 3))
        self.assertEqual(longest(self.line, "a", -2, 8), (-2, 2))

    def test_a_later_one_that_is_longer(self):
        self.assertEqual(longest(self.line, "a", -2, 9), (6, 3))
        self.assertEqual(longest(self.line, None, -5, 100), (9, 91))

    def test_the_stretch_bounds_the_runs(self):
        self.assertEqual(longest(self.line, None, -50, 3), (-50, 47))
        self.assertEqual(longest(self.line, None, 1, 3), (1, 2))

    def test_it_is_a_tuple(self):
        self.assertIs(longest(self.line, "a", -5, 12).__class__, tuple)

    def test_none_where_no_place_holds_it(self):
        self.assertIsNone(longest(self.line, "c", -5, 12))
        self.assertIsNone(longest(self.line, "b", -5, 4))
        self.assertIsNone(longest(self.line, "b", 6, 12))
        self.assertIsNone(longest(empty_line(), "a", -5, 12))

    def test_none_without_places(self):
        for start, end in ((4, 4), (5, 4), (9, -3), (HUGE, -HUGE)):
            for value in ("a", "b", None):
                self.assertIsNone(longest(self.line, value, start, end))

    def test_many_figures(self):
        line = line_of([-FAR, 0, FAR + 1], [None, "a", "b", "a"])
        self.assertEqual(longest(line, "a", -HUGE, 2 * FAR + 1), (-FAR, FAR))
        self.assertEqual(longest(line, "a", -HUGE, 2 * FAR + 2), (FAR + 1, FAR + 1))

    def test_other_kinds(self):
        line = line_of([0, 2, 3], [(1, None), 5, (1, None), 5])
        self.assertEqual(longest(line, (1, None), -3, 9), (-3, 3))
        self.assertEqual(longest(line, 5, -3, 9), (3, 6))


class FirstRoom(AskTest):
    def test_ordinary(self):
        self.assertEqual(first_room(self.line, "a", -10, 1), -3)
        self.assertEqual(first_room(self.line, "b", -10, 2), 4)
        self.assertEqual(first_room(self.line, None, -3, 4), 0)

    def test_this_place_itself(self):
        self.assertEqual(first_room(self.line, "a", -3, 3), -3)
        self.assertEqual(first_room(self.line, None, -50, 47), -50)

    def test_what_is_left_of_a_run_is_too_small(self):
        self.assertEqual(first_room(self.line, "a", -2, 3), 6)
        self.assertEqual(first_room(self.line, None, -49, 47), 9)
        self.assertEqual(first_room(self.line, None, 1, 4), 9)

    def test_just_as_large_and_one_too_large(self):
        self.assertEqual(first_room(self.line, None, 0, 4), 0)
        self.assertEqual(first_room(self.line, None, 0, 5), 9)
        self.assertEqual(first_room(self.line, "b", 0, 2), 4)
        self.assertIsNone(first_room(self.line, "b", 0, 3))

    def test_the_last_run_has_no_end(self):
        self.assertEqual(first_room(self.line, None, 0, HUGE), 9)
        self.assertEqual(first_room(self.line, None, FAR, HUGE), FAR)
        self.assertEqual(first_room(empty_line(), None, -FAR, HUGE), -FAR)

    def test_there_may_be_none(self):
        self.assertIsNone(first_room(self.line, "a", 9, 1))
        self.assertIsNone(first_room(self.line, "a", -10, 4))
        self.assertIsNone(first_room(self.line, "c", -10, 1))
        self.assertIsNone(first_room(self.line, "b", 5, 2))
        self.assertIsNone(first_room(empty_line(), "a", 0, 1))

    def test_runs_that_are_unlike_make_no_room_together(self):
        line = line_of([0, 2, 4], [None, "a", "b", None])
        self.assertIsNone(first_room(line, "a", -5, 3))

    def test_many_figures(self):
        line = line_of([-FAR, FAR], ["a", None, "a"])
        self.assertEqual(first_room(line, None, -HUGE, 2 * FAR), -FAR)
        self.assertIsNone(first_room(line, None, -HUGE, 2 * FAR + 1))
        self.assertEqual(first_room(line, "a", -FAR, 1), FAR)
        self.assertEqual(first_room(line, "a", -FAR - 1, 1), -FAR - 1)

    def test_other_kinds(self):
        line = woven([line_of([0], [None, "a"]), line_of([2], ["b", None])])
        self.assertEqual(first_room(line, ("a", "b"), -5, 2), 0)
        self.assertIsNone(first_room(line, ("a", "b"), -5, 3))
        self.assertEqual(first_room(line, ("a", None), -5, HUGE), 2)

    def test_a_size_below_one_is_refused(self):
        for size in (0, -1, -2, -HUGE):
            for value in ("a", None, "c"):
                with self.assertRaises(BadAsk):
                    first_room(self.line, value, 0, size)
                with self.assertRaises(BadAsk):
                    first_room(empty_line(), value, 0, size)


class Parted(AskTest):
    def check(self, one, other, place, expected):
        self.assertEqual(parted(one, other, place), expected)
        self.assertEqual(parted(other, one, place), expected)

    def test_at_a_cut_of_the_one_and_of_the_other(self):
        other = line_of([-3, 0, 4, 7, 9], [None, "a", None, "b", "a", None])
        self.check(self.line, other, -10, 6)
        self.check(self.line, other, 6, 6)
        self.check(self.line, other, 7, None)

    def test_this_place_itself(self):
        other = line_of([], ["a"])
        self.check(self.line, other, 1, 1)
        self.check(self.line, other, -2, 0)
        self.check(self.line, other, -HUGE, -HUGE)
        self.check(self.line, other, HUGE, HUGE)

    def test_unlike_at_one_place_alone(self):
        other = line_of([-3, 0, 2, 3, 4, 6, 9], [None, "a", None, "a", None, "b", "a", None])
        self.check(self.line, other, -10, 2)
        self.check(self.line, other, 2, 2)
        self.check(self.line, other, 3, None)

    def test_unlike_ahead_of_the_place_alone(self):
        self.check(line_of([0], ["a", None]), line_of([0], ["b", None]), 0, None)
        self.check(line_of([0], ["a", None]), line_of([0], ["b", None]), -1, -1)

    def test_the_same_lines(self):
        self.check(self.line, self.line, -10, None)
        self.check(empty_line(), line_of([5], [None, None]), 0, None)

    def test_lines_that_part_far_out(self):
        one = line_of([0, FAR], [None, "a", None])
        other = line_of([0], [None, "a"])
        self.check(one, other, -FAR, FAR)
        self.check(one, other, FAR + 9, FAR + 9)
        self.check(empty_line(), line_of([HUGE], [None, "a"]), -HUGE, HUGE)

    def test_unlike_things_that_change_together(self):
        self.check(line_of([2], ["a", "b"]), line_of([2], ["a", "c"]), 0, 2)
        self.check(line_of([2, 4], ["a", "b", "c"]), line_of([2, 4], ["b", "a", "c"]), 3, 3)
        self.check(line_of([2, 4], ["a", "b", "c"]), line_of([2, 4], ["b", "a", "c"]), 4, None)

    def test_other_kinds(self):
        one = line_of([0, 3], [None, ("a", 1), [2]])
        self.check(one, line_of([0, 3], [None, ("a", 1), [3]]), -9, 3)
        self.check(one, line_of([0, 3], [None, ("a", 1), [2]]), -9, None)


class AgainstTheOracle(unittest.TestCase):
    LINES = list(tellings((-1, 0, 2, 3), (None, "a", "b"), 3))[::7]

    def test_runs_tally_and_longest(self):
        for cuts, holds in self.LINES:
            at = told(cuts, holds)
            line = line_of(cuts, holds)
            for start in range(-3, 5):
                for end in range(-3, 6):
                    where = (cuts, holds, start, end)
                    self.assertEqual(runs(line, start, end), oracle.runs(at, start, end), where)
                    for value in (None, "a"):
                        self.assertEqual(tally(line, value, start, end),
                                         oracle.tally(at, value, start, end), where)
                        self.assertEqual(longest(line, value, start, end),
                                         oracle.longest(at, value, start, end), where)

    def test_first_room(self):
        for cuts, holds in self.LINES:
            at = told(cuts, holds)
            line = line_of(cuts, holds)
            for place in range(-4, 6):
                for size in range(1, 6):
                    for value in (None, "a"):
                        self.assertEqual(first_room(line, value, place, size),
                                         oracle.first_room(at, value, place, size, 3),
                                         (cuts, holds, place, size, value))

    def test_parted(self):
        some = self.LINES[::9] + [self.LINES[0]]
        for one_cuts, one_holds in some:
            for other_cuts, other_holds in some:
                one_at = told(one_cuts, one_holds)
                other_at = told(other_cuts, other_holds)
                one = line_of(one_cuts, one_holds)
                other = line_of(other_cuts, other_holds)
                for place in range(-3, 6):
                    self.assertEqual(parted(one, other, place),
                                     oracle.parted(one_at, other_at, place, 3),
                                     (one_cuts, one_holds, other_cuts, other_holds, place))
