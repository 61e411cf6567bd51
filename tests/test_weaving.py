import unittest

from cutline.errors import BadAsk
from cutline.lines import Line, empty_line, line_of, same, value_at
from cutline.weaving import joined, unwoven, woven
from tests.oracle import NEAR, form, tellings, told

FAR = 10 ** 29 + 7


def pair(here, there):
    return (here, there)


def first_of(here, there):
    return here if here is not None else there


class WeavingTest(unittest.TestCase):
    def setUp(self):
        self.one = line_of([0, 4], [None, "a", None])
        self.other = line_of([2, 4, 8], [None, "b", "c", None])

    def tearDown(self):
        self.check(self.one, [0, 4], [None, "a", None])
        self.check(self.other, [2, 4, 8], [None, "b", "c", None])

    def check(self, line, cuts, holds):
        self.assertIsInstance(line, Line)
        self.assertEqual((line.cuts, line.holds), (cuts, holds))


class Joined(WeavingTest):
    def test_the_one_over_the_other(self):
        self.check(joined(self.one, self.other, first_of), [0, 4, 8], [None, "a", "c", None])
        self.check(joined(self.other, self.one, first_of), [0, 2, 4, 8], [None, "a", "b", "c", None])

    def test_the_way_gets_the_one_first(self):
        self.check(joined(self.one, self.other, pair), [0, 2, 4, 8],
                   [(None, None), ("a", None), ("a", "b"), (None, "c"), (None, None)])

    def test_what_the_way_makes_alike_is_one_run(self):
        self.check(joined(self.one, self.other, lambda here, there: "x"), [], ["x"])
        self.check(joined(self.one, self.other, lambda here, there: here), [0, 4], [None, "a", None])
        self.check(joined(self.one, self.one, lambda here, there: here == there), [], [True])

    def test_ways_that_tell_other_kinds(self):
        self.check(joined(self.one, self.other, lambda here, there: here == there),
                   [0, 8], [True, False, True])
        self.check(joined(self.one, self.other, lambda here, there: [here, there].count(None)),
                   [0, 2, 4, 8], [2, 1, 0, 1, 2])
        self.check(joined(self.one, self.other, lambda here, there: [there]),
                   [2, 4, 8], [[None], ["b"], ["c"], [None]])
        self.check(joined(self.one, self.other, lambda here, there: {"here": here}),
                   [0, 4], [{"here": None}, {"here": "a"}, {"here": None}])

    def test_lines_of_other_kinds(self):
        counts = line_of([0, 5], [1, 2, 3])
        self.check(joined(counts, line_of([3], [10, 20]), lambda here, there: here + there),
                   [0, 3, 5], [11, 12, 22, 23])

    def test_lines_without_cuts(self):
        self.check(joined(empty_line(), empty_line(), pair), [], [(None, None)])
        self.check(joined(line_of([], ["a"]), self.one, pair),
                   [0, 4], [("a", None), ("a", "a"), ("a", None)])

    def test_only_things_that_meet_at_a_place_come_to_the_way(self):
        met = []
        joined(self.one, self.other, lambda here, there: met.append((here, there)))
        self.assertEqual(set(met), {(None, None), ("a", None), ("a", "b"), (None, "c")})

    def test_many_figures(self):
        one = line_of([-FAR, FAR], [None, "a", None])
        other = line_of([FAR, FAR + 1], [None, "b", None])
        self.check(joined(one, other, first_of), [-FAR, FAR, FAR + 1], [None, "a", "b", None])

    def test_nothing_hangs_on_what_the_way_keeps(self):
        kept = []

        def way(here, there):
            kept.append(there)
            return kept

        line = joined(self.one, self.other, way)
        kept.append("more")
        self.assertEqual(line.holds, [[None], [None, None], [None, None, "b"], [None, None, "b", "c"],
                                      [None, None, "b", "c", None]])

    def test_a_way_that_changes_what_it_gets_changes_no_line(self):
        lists = line_of([0], [[1], [2]])
        line = joined(lists, empty_line(), lambda here, there: here.append(3) or here)
        self.check(line, [0], [[1, 3], [2, 3]])
        self.check(lists, [0], [[1], [2]])
        line = joined(empty_line(), lists, lambda here, there: there.append(3) or there)
        self.check(line, [0], [[1, 3], [2, 3]])
        self.check(lists, [0], [[1], [2]])

    def test_against_the_oracle(self):
        some = list(tellings((-1, 0, 2), (None, "a", "b"), 2))[::3]
        for one_cuts, one_holds in some:
            for other_cuts, other_holds in some:
                one_at = told(one_cuts, one_holds)
                other_at = told(other_cuts, other_holds)
                for way in (pair, first_of):
                    line = joined(line_of(one_cuts, one_holds), line_of(other_cuts, other_holds), way)
                    self.assertEqual((line.cuts, line.holds),
                                     form(lambda p: way(one_at(p), other_at(p)), NEAR[55:66]))


class Woven(WeavingTest):
    def test_the_tuples_in_the_lines_order(self):
        self.check(woven([self.one, self.other]), [0, 2, 4, 8],
                   [(None, None), ("a", None), ("a", "b"), (None, "c"), (None, None)])
        self.check(woven([self.other, self.one]), [0, 2, 4, 8],
                   [(None, None), (None, "a"), ("b", "a"), ("c", None), (None, None)])

    def test_one_line(self):
        self.check(woven([self.one]), [0, 4], [(None,), ("a",), (None,)])

    def test_the_same_line_more_than_once(self):
        self.check(woven([self.one] * 3), [0, 4], [(None,) * 3, ("a",) * 3, (None,) * 3])

    def test_lines_without_cuts(self):
        self.check(woven([empty_line(), line_of([], ["a"]), empty_line()]), [], [(None, "a", None)])

    def test_no_lines_are_refused(self):
        with self.assertRaises(BadAsk):
            woven([])

    def test_many_figures_in_rising_order(self):
        lines = [line_of([FAR], [None, "a"]), line_of([-FAR, 3], [None, "b", None]), line_of([10, 9 + FAR], "abc")]
        self.assertEqual(woven(lines).cuts, [-FAR, 3, 10, FAR, FAR + 9])

    def test_woven_lines_are_woven(self):
        both = woven([self.one, self.other])
        line = woven([both, self.one])
        self.assertEqual(value_at(line, 3), (("a", "b"), "a"))
        self.assertTrue(same(unwoven(line, 0), both))

    def test_the_list_handed_in_stays_and_nothing_hangs_on_it(self):
        lines = [self.one, self.other]
        line = woven(lines)
        self.assertEqual(len(lines), 2)
        self.assertIs(lines[0], self.one)
        self.assertIs(lines[1], self.other)
        lines.append(self.one)
        lines[0] = empty_line()
        self.assertEqual(value_at(line, 3), ("a", "b"))

    def test_nothing_hangs_on_lists_that_lines_hold(self):
        lists = line_of([0], [None, [1]])
        line = woven([lists])
        self.assertIsNot(line.cuts, lists.cuts)
        value_at(line, 0)[0].append(2)
        self.check(line, [0], [(None,), ([1],)])
        self.check(lists, [0], [None, [1]])

    def test_many_lines(self):
        lines = [line_of([number], [None, "a"]) for number in range(50)]
        line = woven(lines)
        self.assertEqual(line.cuts, list(range(50)))
        self.assertEqual(line.holds[20], ("a",) * 20 + (None,) * 30)


class Unwoven(WeavingTest):
    def test_each_of_them_again(self):
        lines = [self.one, self.other, empty_line(), line_of([3], ["a", None])]
        line = woven(lines)
        for number, single in enumerate(lines):
            self.assertTrue(same(unwoven(line, number), single))

    def test_in_its_one_form(self):
        line = woven([self.one, self.other])
        self.check(unwoven(line, 0), [0, 4], [None, "a", None])
        self.check(unwoven(line, 1), [2, 4, 8], [None, "b", "c", None])
        self.check(line, [0, 2, 4, 8],
                   [(None, None), ("a", None), ("a", "b"), (None, "c"), (None, None)])

    def test_against_the_oracle(self):
        told_lines = list(tellings((-1, 0, 2), (None, "a"), 2))[::3]
        for one_cuts, one_holds in told_lines:
            for other_cuts, other_holds in told_lines:
                ats = [told(one_cuts, one_holds), told(other_cuts, other_holds), told([1], ["c", None])]
                lines = [line_of(one_cuts, one_holds), line_of(other_cuts, other_holds), line_of([1], ["c", None])]
                line = woven(lines)
                self.assertEqual((line.cuts, line.holds),
                                 form(lambda p: tuple(at(p) for at in ats), NEAR[55:66]))
                for number, single in enumerate(lines):
                    self.assertTrue(same(unwoven(line, number), single))
