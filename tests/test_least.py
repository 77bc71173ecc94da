"""Least sets: wishes, which sets are asked, what came, and what is refused [10.1, 10.2, 0.3]."""

import itertools
import unittest

from hadbeen import errors
from hadbeen.errors import NoChange, NoPlace, NoValue, NoWish
from hadbeen.least import least
from hadbeen.programs import read_program
from hadbeen.runs import run_of
from hadbeen.settings import Setting

NAMES = "abcdef"
BOXES = [("box", (), name) for name in NAMES]
A, B, C = BOXES[:3]
# The sum of six boxes, as what is told, in a box and in a cell.
LINES = ("main", "set s plus plus plus a b plus c d plus e f", "put 7 s", "tell a", "tell s")
SUM = [("start", place, 10 ** number) for number, place in enumerate(BOXES)]


def run_lines(*lines, start=None, bound=400, forced=None):
    return run_of(Setting(read_program("\n".join(lines)), start or {}, bound, forced))


def rising(many):
    return [list(numbers) for size in range(many + 1) for numbers in itertools.combinations(range(many), size)]


def value_of(numbers):
    return sum(10 ** number for number in numbers)


class LeastCase(unittest.TestCase):
    def setUp(self):
        self.old = run_lines(*LINES)

    def assert_least(self, old, changes, wish, numbers, asked):
        before = (repr(changes), repr(wish), old.moments())
        told = least(old, changes, wish)
        self.assertIs(type(told), tuple)
        self.assertEqual(told, (numbers, asked))
        self.assertIs(type(told[1]), list)
        for pair in told[1]:
            self.assertEqual((type(pair), len(pair), type(pair[0])), (tuple, 2, list))
        self.assertEqual((repr(changes), repr(wish), old.moments()), before)

    def assert_refused(self, refusal, *given):
        with self.subTest(given=given):
            before = (repr(given), self.old.moments(), self.old.setting.start())
            with self.assertRaises(errors.HadError) as caught:
                least(self.old, *given)
            self.assertIs(type(caught.exception), refusal)
            self.assertEqual((repr(given), self.old.moments(), self.old.setting.start()), before)


class WishesTest(LeastCase):
    def test_granted_by_no_change(self):
        for wish, came in ((("box", "s", 0), 0), (("cell", 7, 0), 0), (("tells", [0, 0]), [0, 0]),
                           (("end", "ended"), "ended"), (("box", "z", 0), 0), (("cell", 999999, 0), 0)):
            self.assert_least(self.old, SUM[:2], wish, [], [([], came)])

    def test_a_box(self):
        self.assert_least(self.old, SUM[:2], ("box", "s", 10), [1], [([], 0), ([0], 1), ([1], 10)])

    def test_a_box_that_only_the_start_gives(self):
        self.assert_least(self.old, SUM[:2], ("box", "b", 10), [1], [([], 0), ([0], 0), ([1], 10)])

    def test_a_box_of_main_not_of_a_call(self):
        old = run_lines("fun f a", "give 3", "main", "call b f 5")
        self.assert_least(old, [("row", 3, "call a f 5")], ("box", "a", 5), None, [([], 0), ([0], 3)])

    def test_a_cell(self):
        self.assert_least(self.old, SUM[:2], ("cell", 7, 11), [0, 1], [([], 0), ([0], 1), ([1], 10), ([0, 1], 11)])

    def test_tells(self):
        self.assert_least(self.old, SUM[:2], ("tells", [1, 11]), [0, 1],
                          [([], [0, 0]), ([0], [1, 1]), ([1], [0, 10]), ([0, 1], [1, 11])])
        self.assert_least(self.old, [("row", 3, "skip"), ("row", 4, "skip")], ("tells", []), [0, 1],
                          [([], [0, 0]), ([0], [0]), ([1], [0]), ([0, 1], [])])

    def test_ends(self):
        old = run_lines("main", "tell over 1 a", "while b", "end", start={A: 1}, bound=9)
        changes = [("start", B, 1), ("start", A, 0)]
        self.assert_least(old, changes, ("end", "ended"), [], [([], "ended")])
        self.assert_least(old, changes, ("end", "tired"), [0], [([], "ended"), ([0], "tired")])
        self.assert_least(old, changes, ("end", "fell"), [1], [([], "ended"), ([0], "tired"), ([1], "fell")])

    def test_values_behind_the_last_moment_of_a_run_that_fell_or_tired(self):
        old = run_lines("main", "set b 1", "tell over 1 a", "set b 2", start={A: 1})
        self.assert_least(old, [("start", A, 0)], ("box", "b", 1), [0], [([], 2), ([0], 1)])
        old = run_lines("main", "set b 1", "while a", "end", "set b 2", bound=4)
        self.assert_least(old, [("start", A, 5)], ("box", "b", 1), [0], [([], 2), ([0], 1)])

    def test_the_edges_of_values_and_names(self):
        for wish in (("box", "a", 999999), ("box", "zzzzzz", 1), ("cell", 999999, 999999), ("cell", 0, 1),
                     ("tells", []), ("tells", [999999]), ("tells", [0] * 399), ("tells", [0] * 400)):
            self.assertEqual(least(self.old, SUM[:1], wish)[0], None)

    def test_400_tells(self):
        old = run_lines("main", *["tell 1"] * 9, "while a", "tell 1", "end")
        change = ("start", A, 1)
        told = least(old, [change], ("tells", [1] * 9))
        self.assertEqual(told[0], [])
        many = run_of(old.setting.changed(change)).tells()
        self.assertEqual(least(old, [change], ("tells", many))[0], [0])
        self.assert_refused(NoWish, [SUM[0]], ("tells", [1] * 401))


class SetsTest(LeastCase):
    def test_one_to_six_changes_granted_by_none_of_the_sets(self):
        for many in range(1, 7):
            self.assert_least(self.old, SUM[:many], ("box", "s", 7), None,
                              [(numbers, value_of(numbers)) for numbers in rising(many)])

    def test_every_set_of_six_is_found(self):
        asked = [(numbers, value_of(numbers)) for numbers in rising(6)]
        self.assertEqual(len(asked), 64)
        for number, (numbers, value) in enumerate(asked):
            self.assert_least(self.old, SUM, ("cell", 7, value), numbers, asked[:number + 1])

    def test_the_first_of_several_sets(self):
        old = run_lines("main", "set s plus a plus b c")
        changes = [("start", A, 1), ("start", B, 2), ("start", C, 3)]
        self.assert_least(old, changes, ("box", "s", 3), [2], [([], 0), ([0], 1), ([1], 2), ([2], 3)])

    def test_the_numbers_are_those_of_the_list(self):
        changes = [SUM[3], SUM[0], SUM[5]]
        self.assert_least(self.old, changes, ("box", "s", 100001), [1, 2], [
            ([], 0), ([0], 1000), ([1], 1), ([2], 100000), ([0, 1], 1001), ([0, 2], 101000), ([1, 2], 100001)])

    def test_changes_of_every_kind(self):
        old = run_lines("main", "if a", "tell b", "else", "tell 4", "end", start={B: 1})
        changes = [("start", B, 2), ("goes", (1,), True), ("row", 2, "tell plus b 5")]
        self.assert_least(old, changes, ("tells", [7]), [0, 1, 2], [
            ([], [4]), ([0], [4]), ([1], [1]), ([2], [4]), ([0, 1], [2]), ([0, 2], [4]), ([1, 2], [6]),
            ([0, 1, 2], [7])])

    def test_from_a_told_run(self):
        old = run_of(self.old.setting.changed(("start", A, 5)))
        self.assert_least(old, SUM[:2], ("box", "s", 15), [1], [([], 5), ([0], 1), ([1], 15)])

    def test_a_change_that_stands_in_the_setting_already(self):
        self.assert_least(self.old, [("start", A, 0)], ("box", "s", 1), None, [([], 0), ([0], 0)])


class RefusedTest(LeastCase):
    WISH = ("box", "s", 1)

    def test_what_is_no_list_of_one_to_six(self):
        for changes in (None, 0, True, "", "abc", (), tuple(SUM[:2]), {}, {0: SUM[0]}, [], SUM + [("start", A, 2)],
                        SUM + [("start", ("cell", 1), 1)], SUM + [("row", 3, "skip")], SUM[0], [SUM[0]] * 7, [None] * 7):
            self.assert_refused(NoChange, changes, self.WISH)
            self.assert_refused(NoChange, changes, None)

    def test_changes_that_are_refused(self):
        for change in (None, 0, "", (), [], ("start",), ("start", A), ["start", A, 1], ("begin", A, 1),
                       ("row", 0, "skip"), ("row", True, "skip"), ("row", 1, "if a"), ("row", 1, "set"),
                       ("row", 5, "skip"), ("row", -1, "skip"), ("row", 1, None), ("goes", 3, True),
                       ("goes", (1,), 1), ("goes", (True,), True), ("goes", [1], True)):
            for changes in ([change], [SUM[0], change], [change, SUM[0]], SUM[:5] + [change]):
                self.assert_refused(NoChange, changes, self.WISH)
                self.assert_refused(NoChange, changes, None)
        for place in (None, [], ("box", (1,), "a"), ("drawn", "w"), ("cell", -1), ("cell", True)):
            self.assert_refused(NoPlace, [("start", place, 1)], self.WISH)
            self.assert_refused(NoPlace, [SUM[0], ("start", place, -1)], self.WISH)
        for value in (-1, 1000000, True, None, "1"):
            self.assert_refused(NoValue, [("start", A, value)], self.WISH)
            self.assert_refused(NoValue, [SUM[1], ("start", A, value)], None)

    def test_the_first_change_that_is_refused_counts(self):
        no_place, no_value, no_change = ("start", None, 1), ("start", A, -1), ("row", 0, "skip")
        wanted = {no_place: NoPlace, no_value: NoValue, no_change: NoChange, None: NoChange}
        for order in itertools.permutations(wanted):
            self.assert_refused(wanted[order[0]], list(order), None)
            self.assert_refused(wanted[order[0]], SUM[1:3] + list(order), self.WISH)

    def test_two_of_one_key(self):
        for changes in ([SUM[0], SUM[0]], [SUM[0], SUM[1], ("start", A, 5)], [("row", 1, "skip"), ("row", 1, "tell 1")],
                        [SUM[0], ("goes", (1,), True), ("goes", (1,), None)], SUM[:5] + [SUM[4]]):
            self.assert_refused(NoChange, changes, self.WISH)
            self.assert_refused(NoChange, changes, None)

    def test_a_change_is_refused_ahead_of_two_of_one_key(self):
        self.assert_refused(NoPlace, [SUM[0], SUM[0], ("start", None, 1)], self.WISH)
        self.assert_refused(NoValue, [SUM[0], SUM[0], ("start", A, -1)], self.WISH)

    def test_what_is_no_wish(self):
        good = (("box", "s", 1), ("cell", 7, 1), ("tells", [1]), ("end", "fell"))
        wishes = [None, 0, True, "", "ended", [], {}, (), ("box",), ("end",), ("tells",), ("cell", 7)]
        wishes += [list(wish) for wish in good] + [wish[:-1] for wish in good] + [wish + (1,) for wish in good]
        wishes += [("Box", "s", 1), ("", "s", 1), (None, "s", 1), (["box"], "s", 1), ("world", "w", 1),
                   ("drawn", "w"), ("start", "s", 1), ("told", [1]), ("box", [1]), ("end", [1]), (None, [1])]
        wishes += [("box", name, 1) for name in ("", "S", "sevenly", "s1", "set", "main", None, 1, ("s",), ["s"])]
        wishes += [("cell", value, 1) for value in (-1, 1000000, True, None, "7", (7,), [7], 10 ** 39)]
        for value in (-1, 1000000, True, False, None, "1", (1,), [1], 10 ** 39):
            wishes += [("box", "s", value), ("cell", 7, value), ("tells", [value]), ("tells", [1, value])]
        wishes += [("tells", told) for told in (None, (), (1,), "", 1, {}, [[]], [0] * 401, [0] * 1000)]
        wishes += [("end", word) for word in (None, "", "Ended", "end", "nought", ("ended",), ["fell"], 1, True)]
        for wish in wishes:
            self.assert_refused(NoWish, SUM[:2], wish)


class OwnTest(LeastCase):
    def test_told_lists_are_the_asker_s_own(self):
        wanted = ([0, 1], [([], [0, 0]), ([0], [1, 1]), ([1], [0, 10]), ([0, 1], [1, 11])])
        wish = ("tells", [1, 11])
        told = least(self.old, SUM[:2], wish)
        told[0].append(9)
        self.assertEqual(told[1], wanted[1])
        told[1][3][0].append(8)
        told[1][3][1].append(7)
        self.assertEqual(told[0], [0, 1, 9])
        self.assertEqual(wish, ("tells", [1, 11]))
        self.assertEqual(told[1][:3], wanted[1][:3])
        for numbers, came in told[1]:
            numbers.clear()
            came.append(5)
        self.assertEqual(least(self.old, SUM[:2], wish), wanted)
        self.assertEqual(self.old.tells(), [0, 0])

    def test_what_is_handed_in_is_not_changed(self):
        changes, wish = SUM[:3], ("tells", [1, 2])
        least(self.old, changes, wish)
        self.assertEqual((changes, wish), (SUM[:3], ("tells", [1, 2])))
        self.assertEqual(self.old.setting.start(), {})


if __name__ == "__main__":
    unittest.main()
