import unittest
from itertools import product

from cutline.desk import Desk
from cutline.errors import BadDeed, NoDeed
from cutline.lines import Line
from tests.oracle import NEAR, PlainDesk, form

FAR = 10 ** 29 + 7
REFUSED = (("open", 2, -1), ("close", 2, -1), ("stretch", 0), ("stretch", -1), ("turn", 1),
           ("Mark", "x", 1), ("", 1), ("open", 0, -FAR))


class DeskTest(unittest.TestCase):
    def setUp(self):
        self.desk = Desk()

    def told(self, desk=None):
        desk = desk or self.desk
        line = desk.line()
        return line.cuts, line.holds, [(name, desk.where(name)) for name in desk.names()]

    def do(self, *deeds):
        for deed in deeds:
            self.assertIsNone(self.desk.do(deed))


class First(DeskTest):
    def test_none_everywhere_and_no_marks(self):
        self.assertIsInstance(self.desk.line(), Line)
        self.assertEqual(self.told(), ([], [None], []))
        self.assertIsNone(self.desk.where("x"))
        self.assertEqual(self.desk.names(), [])

    def test_nothing_to_undo_or_to_do_again(self):
        for wish in (self.desk.undo, self.desk.redo, self.desk.undo):
            with self.assertRaises(NoDeed):
                wish()
            self.assertEqual(self.told(), ([], [None], []))


class Deeds(DeskTest):
    def test_each_deed_changes_the_line(self):
        for deed, cuts, holds in (
            (("put", 0, 10, "a"), [0, 10], [None, "a", None]),
            (("open", 5, 2), [0, 5, 7, 12], [None, "a", None, "a", None]),
            (("close", 9, 3), [0, 5, 7, 9], [None, "a", None, "a", None]),
            (("stretch", 2), [0, 10, 14, 18], [None, "a", None, "a", None]),
            (("put", None, 14, "b"), [14, 18], ["b", "a", None]),
            (("mark", "x", 14), [14, 18], ["b", "a", None]),
            (("put", 14, None, "b"), [], ["b"]),
        ):
            self.do(deed)
            self.assertEqual(self.told()[:2], (cuts, holds))

    def test_the_deeds_answer_nothing(self):
        self.assertIsNone(self.desk.do(("put", 0, 1, "a")))
        self.assertIsNone(self.desk.do(("mark", "x", 1)))
        self.assertIsNone(self.desk.undo())
        self.assertIsNone(self.desk.redo())

    def test_refused_deeds_change_nothing(self):
        self.do(("put", 0, 10, "a"), ("mark", "x", 3), ("mark", "y", 4))
        self.desk.undo()
        ahead = self.told()
        for deed in REFUSED:
            with self.assertRaises(BadDeed):
                self.desk.do(deed)
            self.assertEqual(self.told(), ahead)
        self.desk.redo()
        self.assertEqual(self.desk.where("y"), 4)
        self.desk.undo()
        self.desk.undo()
        self.desk.undo()
        self.assertEqual(self.told(), ([], [None], []))

    def test_refused_on_a_new_desk(self):
        for deed in REFUSED:
            with self.assertRaises(BadDeed):
                self.desk.do(deed)
        with self.assertRaises(NoDeed):
            self.desk.undo()
        self.assertEqual(self.told(), ([], [None], []))


class Marks(DeskTest):
    def test_set_and_set_anew(self):
        self.do(("mark", "x", 3), ("mark", "y", -FAR))
        self.assertEqual((self.desk.where("x"), self.desk.where("y")), (3, -FAR))
        self.do(("mark", "x", 7))
        self.assertEqual((self.desk.where("x"), self.desk.where("y")), (7, -FAR))

    def test_a_mark_at_nought_and_one_that_is_not_there(self):
        self.do(("mark", "x", 0))
        self.assertEqual(self.desk.where("x"), 0)
        self.assertIsNone(self.desk.where("y"))
        self.assertIsNone(self.desk.where(""))

    def test_any_text_is_a_name(self):
        for name in ("", " ", "put", "X", "x", "a b\n", "11"):
            self.do(("mark", name, 5))
            self.assertEqual(self.desk.where(name), 5)
        self.assertEqual(self.desk.names(), ["", " ", "11", "X", "a b\n", "put", "x"])

    def test_names_are_sorted(self):
        self.do(("mark", "c", 1), ("mark", "a", 3), ("mark", "b", 2), ("mark", "a", 9))
        self.assertEqual(self.desk.names(), ["a", "b", "c"])

    def test_opening_carries_them(self):
        self.do(("mark", "ahead", 2), ("mark", "at", 3), ("mark", "behind", 4), ("open", 3, 5))
        self.assertEqual([self.desk.where(name) for name in ("ahead", "at", "behind")], [2, 8, 9])

    def test_closing_carries_them(self):
        self.do(("mark", "ahead", 2), ("mark", "at", 3), ("mark", "goes", 5), ("mark", "last", 6),
                ("mark", "behind", 7), ("mark", "far", 10), ("close", 3, 4))
        self.assertEqual([self.desk.where(name) for name in ("ahead", "at", "goes", "last", "behind", "far")],
                         [2, 3, 3, 3, 3, 6])

    def test_stretching_carries_them(self):
        self.do(("mark", "below", -2), ("mark", "nought", 0), ("mark", "far", FAR), ("stretch", 3))
        self.assertEqual([self.desk.where(name) for name in ("below", "nought", "far")], [-6, 0, 3 * FAR])

    def test_putting_and_marking_carry_none(self):
        self.do(("mark", "x", 2), ("put", 0, 5, "a"), ("put", None, None, None), ("mark", "y", 2))
        self.assertEqual([self.desk.where(name) for name in ("x", "y")], [2, 2])

    def test_a_mark_changes_no_line(self):
        self.do(("put", 0, 5, "a"), ("mark", "x", 2))
        self.assertEqual(self.told(), ([0, 5], [None, "a", None], [("x", 2)]))

    def test_the_list_of_names_is_the_askers_own(self):
        self.do(("mark", "x", 2))
        names = self.desk.names()
        names.append("y")
        names[0] = "z"
        self.assertEqual(self.desk.names(), ["x"])


class UndoAndRedo(DeskTest):
    def test_one_behind_the_other(self):
        states = [self.told()]
        for deed in (("put", 0, 10, "a"), ("mark", "x", 5), ("open", 5, 2), ("mark", "x", 1),
                     ("mark", "y", 6), ("close", 0, 6), ("stretch", 4), ("put", 3, 3, "b"),
                     ("open", 0, 0)):
            self.do(deed)
            states.append(self.told())
        for times in range(2):
            for state in states[-2::-1]:
                self.desk.undo()
                self.assertEqual(self.told(), state)
            with self.assertRaises(NoDeed):
                self.desk.undo()
            self.assertEqual(self.told(), states[0])
            for state in states[1:]:
                self.desk.redo()
                self.assertEqual(self.told(), state)
            with self.assertRaises(NoDeed):
                self.desk.redo()
            self.assertEqual(self.told(), states[-1])

    def test_a_mark_is_undone_and_done_again(self):
        self.do(("mark", "x", 5), ("mark", "x", 6))
        self.desk.undo()
        self.assertEqual(self.desk.where("x"), 5)
        self.desk.undo()
        self.assertIsNone(self.desk.where("x"))
        self.assertEqual(self.desk.names(), [])
        self.desk.redo()
        self.assertEqual(self.desk.where("x"), 5)
        self.desk.redo()
        self.assertEqual(self.desk.where("x"), 6)

    def test_a_mark_at_a_place_that_went_comes_back(self):
        self.do(("mark", "x", 5), ("mark", "y", 3), ("close", 3, 4))
        self.assertEqual((self.desk.where("x"), self.desk.where("y")), (3, 3))
        self.desk.undo()
        self.assertEqual((self.desk.where("x"), self.desk.where("y")), (5, 3))
        self.desk.redo()
        self.assertEqual((self.desk.where("x"), self.desk.where("y")), (3, 3))

    def test_another_deed_ends_doing_again(self):
        for other in (("put", 7, 8, "b"), ("mark", "x", 1), ("put", 3, 3, "b"), ("open", 1, 0), ("stretch", 1),
                      ("put", 0, 5, "a")):
            self.desk = Desk()
            self.do(("put", 0, 5, "a"), ("put", 2, 3, "c"))
            self.desk.undo()
            self.do(other)
            state = self.told()
            with self.assertRaises(NoDeed):
                self.desk.redo()
            self.assertEqual(self.told(), state)
            self.desk.undo()
            self.assertEqual(self.told(), ([0, 5], [None, "a", None], []))
            self.desk.redo()
            self.assertEqual(self.told(), state)

    def test_a_deed_that_changes_nothing_is_undone_by_itself(self):
        self.do(("put", 0, 5, "a"), ("put", 0, 5, "a"), ("open", 9, 0))
        for times in range(2):
            self.desk.undo()
            self.assertEqual(self.told()[0], [0, 5])
        self.desk.undo()
        self.assertEqual(self.told()[0], [])

    def test_a_refused_deed_is_not_undone_and_does_not_end_doing_again(self):
        self.do(("put", 0, 5, "a"), ("mark", "x", 2))
        for deed in REFUSED:
            with self.assertRaises(BadDeed):
                self.desk.do(deed)
        self.desk.undo()
        self.assertEqual(self.told(), ([0, 5], [None, "a", None], []))
        for deed in REFUSED:
            with self.assertRaises(BadDeed):
                self.desk.do(deed)
        self.desk.redo()
        self.assertEqual(self.told(), ([0, 5], [None, "a", None], [("x", 2)]))

    def test_nothing_to_do_again_leaves_what_can_be_undone(self):
        self.do(("put", 0, 5, "a"))
        for times in range(2):
            with self.assertRaises(NoDeed):
                self.desk.redo()
        self.desk.undo()
        for times in range(2):
            with self.assertRaises(NoDeed):
                self.desk.undo()
        self.desk.redo()
        self.assertEqual(self.told(), ([0, 5], [None, "a", None], []))


class OwnThings(DeskTest):
    def test_a_line_told_stays_as_it_was(self):
        self.do(("put", 0, 5, "a"))
        line = self.desk.line()
        self.do(("put", 2, 3, "b"), ("stretch", 2))
        self.desk.undo()
        self.desk.undo()
        self.desk.undo()
        self.assertEqual((line.cuts, line.holds), ([0, 5], [None, "a", None]))

    def test_what_is_done_to_the_lists_of_a_line_told_changes_nothing(self):
        self.do(("put", 0, 5, "a"), ("put", 2, 3, "b"))
        line = self.desk.line()
        line.cuts.append(99)
        line.holds[1] = "z"
        self.assertEqual(self.told(), ([0, 2, 3, 5], [None, "a", "b", "a", None], []))
        self.desk.undo()
        self.desk.redo()
        self.assertEqual(self.told(), ([0, 2, 3, 5], [None, "a", "b", "a", None], []))

    def test_each_desk_is_its_own(self):
        other = Desk()
        self.do(("put", 0, 5, "a"), ("mark", "x", 2))
        self.assertEqual(self.told(other), ([], [None], []))
        with self.assertRaises(NoDeed):
            other.undo()
        other.do(("mark", "y", 1))
        self.desk.undo()
        with self.assertRaises(NoDeed):
            other.redo()
        self.assertEqual(self.told(), ([0, 5], [None, "a", None], []))
        self.assertEqual(self.told(other), ([], [None], [("y", 1)]))


class AgainstTheOracle(DeskTest):
    WISHES = (("put", -1, 2, "a"), ("open", 0, 2), ("close", -1, 2), ("stretch", 2), ("mark", "x", 1),
              ("mark", "y", -1), "undo", "redo")

    def wish(self, wish, desk, plain):
        if wish == "undo" and plain.count == 0 or wish == "redo" and plain.count == len(plain.deeds):
            with self.assertRaises(NoDeed):
                desk.undo() if wish == "undo" else desk.redo()
            return
        for one in (desk, plain):
            if wish == "undo":
                one.undo()
            elif wish == "redo":
                one.redo()
            else:
                one.do(wish)

    def hold_against(self, wishes, places):
        desk = Desk()
        plain = PlainDesk()
        for wish in wishes:
            self.wish(wish, desk, plain)
        line = desk.line()
        self.assertEqual((line.cuts, line.holds), form(plain.at(), places), wishes)
        self.assertEqual({name: desk.where(name) for name in desk.names()}, plain.marks(), wishes)

    def test_all_short_rows_of_wishes(self):
        for count in range(1, 5):
            for wishes in product(self.WISHES, repeat=count):
                self.hold_against(wishes, NEAR[15:106])

    def test_long_rows_of_wishes(self):
        for first in range(1, 60):
            wishes = [self.numbered(number * first) for number in range(60)]
            self.hold_against(wishes, range(-150, 151))

    def numbered(self, number):
        place = number * 7 % 23 - 11
        spin = number * number % 31 % 10
        if spin in (0, 1):
            return "undo"
        if spin == 2:
            return "redo"
        if spin == 3:
            return ("open", place, number % 3)
        if spin == 4:
            return ("close", place, number % 4)
        if spin in (5, 6):
            return ("mark", "abc"[number % 3], place)
        return ("put", place, place + number % 9, ("a", "b", None)[number % 3])
