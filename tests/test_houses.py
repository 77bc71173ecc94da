"""Houses: changes put and taken back, and the run behind each [9.1, 9.2, 0.2, 0.3]."""

import itertools
import unittest

from hadbeen import errors
from hadbeen.checker import check
from hadbeen.errors import NoChange, NoKey, NoPlace, NoValue
from hadbeen.houses import House
from hadbeen.programs import read_program
from hadbeen.redo import had_been
from hadbeen.runs import Run, run_of
from hadbeen.settings import Setting, key_of
from hadbeen.whys import parted

A, B, C, I = ("box", (), "a"), ("box", (), "b"), ("box", (), "c"), ("box", (), "i")
LINES = ("fun f a", "give plus a 1", "main", "if a", "call b f a", "else", "ask b w 2", "end", "while less i b",
         "set i plus i 2", "end", "tell i")
START = {A: 4, ("world", "w", 2): 3}
FORCED = {(8, 4): False}
CHANGES = (("start", A, 0), ("start", C, 0), ("start", ("world", "w", 2), 5), ("row", 9, "set i plus i 1"),
           ("row", 1, "give times a 2"), ("goes", (3,), True), ("goes", (8, 4), None))


def key(change):
    return change[:2]


class HouseCase(unittest.TestCase):
    def setUp(self):
        self.setting = Setting(read_program("\n".join(LINES)), START, 40, FORCED)
        self.house = House(self.setting)
        self.first = run_of(self.setting)

    def assert_stands(self, house, changes):
        """All that a house tells is as the changes have it that stand."""
        setting = self.setting
        for change in changes:
            setting = setting.changed(change)
        wanted = run_of(setting)
        run = house.run()
        self.assertIsInstance(run, Run)
        self.assertEqual(run.moments(), wanted.moments())
        self.assertEqual(run.end(), wanted.end())
        self.assertEqual(run.behind(len(run.moments())), wanted.behind(len(run.moments())))
        self.assertTrue(run.setting.alike(setting))
        self.assertEqual(run.setting.start(), setting.start())
        self.assertEqual(house.changes(), list(changes))
        self.assertIs(type(house.changes()), list)
        self.assertEqual(house.parted(), parted(self.first, wanted))
        self.assertEqual(house.setting.start(), START)
        self.assertEqual(house.setting.forced(), FORCED)
        self.assertEqual(house.setting.bound, 40)
        self.assertEqual(house.setting.program.text(), "\n".join(LINES))

    def assert_book(self, house, asked, given):
        """What is put or taken tells the book from the run ahead of it to the one behind it."""
        ahead = house.run()
        book = asked(given)
        self.assertEqual(book, had_been(ahead, house.run().setting)[1])
        self.assertEqual(check(ahead, house.run().setting, book).moments(), house.run().moments())
        return book

    def assert_refused(self, refusal, asked, *given):
        with self.subTest(given=given):
            changes, moments = self.house.changes(), self.house.run().moments()
            with self.assertRaises(errors.HadError) as caught:
                asked(*given)
            self.assertIs(type(caught.exception), refusal)
            self.assertEqual(self.house.changes(), changes)
            self.assertEqual(self.house.run().moments(), moments)
            self.assert_stands(self.house, changes)


class PutTest(HouseCase):
    def test_at_first_none_stand(self):
        self.assert_stands(self.house, [])
        self.assertEqual(self.house.parted(), ([], [], [], self.first.addresses()))

    def test_one_change_of_each_kind(self):
        for change in CHANGES:
            house = House(self.setting)
            self.assert_book(house, house.put, change)
            self.assert_stands(house, [change])

    def test_the_book_is_from_the_run_ahead_of_it(self):
        choice = ("part", (3,), [-1])
        self.assertEqual(self.house.put(("row", 11, "tell plus i 0")),
                         [choice, ("part", (8, 0), [-1, 0]), ("done", (11,))])
        # The last moment is kept: in the run just ahead its line reads so already.
        self.assertEqual(self.house.put(("row", 9, "set i plus i 3")), [
            choice, ("kept", (8, 0), [-1, 0]), ("done", (8, 0, 9)), ("done", (8, 1)), ("done", (8, 1, 9)),
            ("done", (8, 2)), ("kept", (11,), [4])])
        self.assertEqual(self.house.put(("row", 9, "set i plus i 3")),
                         [choice, ("part", (8, 0), [-1, 0]), ("kept", (11,), [1])])

    def test_several_changes_in_every_order(self):
        for order in itertools.permutations(CHANGES[2:6]):
            house = House(self.setting)
            for number, change in enumerate(order):
                self.assert_book(house, house.put, change)
                self.assert_stands(house, order[:number + 1])

    def test_a_change_put_in_the_place_of_another_keeps_its_place(self):
        one, two, three = ("start", A, 1), ("row", 9, "set i plus i 1"), ("goes", (3,), False)
        for change in (one, two, three):
            self.house.put(change)
        for other, changes in ((("start", A, 2), [("start", A, 2), two, three]),
                               (("goes", (3,), None), [("start", A, 2), two, ("goes", (3,), None)]),
                               (("row", 9, "set i plus i 4"),
                                [("start", A, 2), ("row", 9, "set i plus i 4"), ("goes", (3,), None)])):
            self.assert_book(self.house, self.house.put, other)
            self.assert_stands(self.house, changes)

    def test_keys_of_one_kind_that_are_unlike(self):
        changes = [("start", A, 1), ("start", B, 1), ("row", 9, "set i plus i 1"), ("row", 11, "tell a"),
                   ("goes", (3,), True), ("goes", (8, 0), True), ("start", ("cell", 3), 1), ("goes", (), True)]
        for number, change in enumerate(changes):
            self.house.put(change)
            self.assert_stands(self.house, changes[:number + 1])

    def test_a_change_that_is_put_holds_over_the_first_setting(self):
        self.house.put(("goes", (8, 4), True))
        self.assert_stands(self.house, [("goes", (8, 4), True)])
        self.house.put(("goes", (8, 4), None))
        self.assert_stands(self.house, [("goes", (8, 4), None)])
        self.house.take(("goes", (8, 4)))
        self.assert_stands(self.house, [])
        self.assertEqual(self.house.run().setting.forced(), FORCED)

    def test_what_is_refused(self):
        self.house.put(("start", A, 1))
        self.house.put(("row", 9, "set i plus i 1"))
        for change in (None, 0, "", [], (), ("start",), ("start", A), ["start", A, 1], ("begin", A, 1), (A, A, A),
                       (["start"], A, 1), ("row", 0, "skip"), ("row", 2, "skip"), ("row", 12, "skip"),
                       ("row", -1, "skip"), ("row", True, "give a"), ("row", "9", "skip"), ("row", None, "skip"),
                       ("row", 9, "if a"), ("row", 9, "set i"), ("row", 9, None), ("row", 9, "skip\nskip"),
                       ("row", 4, "call b g a"), ("row", 4, "call b f"), ("row", [], "skip"), ("goes", None, True),
                       ("goes", 3, True), ("goes", [3], True), ("goes", (True,), True), ("goes", (-1,), True),
                       ("goes", (3,), 1), ("goes", (3,), 0), ("goes", (3,), "yes")):
            self.assert_refused(NoChange, self.house.put, change)
        for place in (None, 3, "a", [], ("box", (3,), "a"), ("box", (), "A"), ("cell", -1), ("cell", True),
                      ("drawn", "w"), ("world", "w"), ["cell", 3], ("cell", [3]), {}):
            self.assert_refused(NoPlace, self.house.put, ("start", place, 1))
            self.assert_refused(NoPlace, self.house.put, ("start", place, -1))
        for value in (-1, 1000000, True, None, "1", [], ()):
            self.assert_refused(NoValue, self.house.put, ("start", A, value))
        self.assert_stands(self.house, [("start", A, 1), ("row", 9, "set i plus i 1")])


class TakeTest(HouseCase):
    def test_changes_taken_back_in_every_order(self):
        for order in itertools.permutations(range(4)):
            house = House(self.setting)
            left = list(CHANGES[2:6])
            for change in left:
                house.put(change)
            for change in [CHANGES[2:6][number] for number in order]:
                self.assert_book(house, house.take, key(change))
                left.remove(change)
                self.assert_stands(house, left)
            self.assertEqual(house.run().moments(), self.first.moments())

    def test_changes_of_each_kind(self):
        for change in CHANGES:
            house = House(self.setting)
            house.put(change)
            self.assert_book(house, house.take, key_of(change))
            self.assert_stands(house, [])

    def test_one_taken_back_and_put_anew_comes_last(self):
        one, two, three = CHANGES[0], CHANGES[3], CHANGES[5]
        for change in (one, two, three):
            self.house.put(change)
        self.house.take(key(one))
        self.assert_stands(self.house, [two, three])
        self.assert_book(self.house, self.house.put, one)
        self.assert_stands(self.house, [two, three, one])

    def test_the_book_of_taking_back(self):
        self.house.put(("row", 11, "tell a"))
        self.assertEqual(self.house.take(("row", 11)),
                         [("part", (3,), [-1]), ("part", (8, 0), [-1, 0]), ("done", (11,))])

    def test_keys_that_do_not_stand(self):
        self.house.put(("row", 1, "give a"))
        self.house.put(("start", A, 1))
        self.house.put(("goes", (8, 0), False))
        ring = []
        ring.append(ring)
        for other in (None, True, 0, 1, "", "row", (), [], {}, ("row",), ("row", 9), ("row", 1, "give a"), ["row", 1],
                      ("start", B), ("start", list(A)), ("start", ("box", [], "a")), ("start",), ("goes", (8, 1)),
                      ("goes", [8, 0]), ("goes", (8,)), ("goes", ()), ("start", {}), (["row"], 1), ({}, []),
                      ("row", [1]), [[]], {"row": 1}, ("row", "1"), ("row", None), 10 ** 39, ("row", -1),
                      ("start", A, 1), (("row", 1),), ("Row", 1), ring, ("row", ring), ("row", 10 ** 39)):
            self.assert_refused(NoKey, self.house.take, other)
        self.assert_refused(NoKey, House(self.setting).take, ("row", 1))

    def test_keys_that_python_holds_equal(self):
        self.house.put(("row", 1, "give a"))
        self.house.take(("row", True))
        self.assert_stands(self.house, [])
        self.house.put(("goes", (8, 0), False))
        self.house.take(("goes", (8, False)))
        self.assert_stands(self.house, [])
        self.house.put(("start", ("cell", 1), 2))
        self.house.take(("start", ("cell", True)))
        self.assert_stands(self.house, [])

    def test_a_key_taken_twice(self):
        self.house.put(CHANGES[0])
        self.house.take(key(CHANGES[0]))
        self.assert_refused(NoKey, self.house.take, key(CHANGES[0]))

    def test_put_and_taken_in_a_long_row(self):
        stands, turn = [], 0
        for step in range(60):
            turn = (turn * 5 + 3) % 97
            change = CHANGES[turn % len(CHANGES)]
            if change in stands and turn % 2:
                self.assert_book(self.house, self.house.take, key(change))
                stands.remove(change)
            else:
                self.assert_book(self.house, self.house.put, change)
                stands += [] if change in stands else [change]
            self.assert_stands(self.house, stands)


class OwnTest(HouseCase):
    def test_what_was_handed_in_may_change(self):
        start = dict(START)
        setting = Setting(read_program("\n".join(LINES)), start, 40, FORCED)
        house = House(setting)
        start.clear()
        setting.bound = 1
        setting.program = read_program("main")
        self.assert_stands(house, [])
        house.put(CHANGES[0])
        self.assert_stands(house, [CHANGES[0]])

    def test_told_things_are_the_asker_s_own(self):
        book = self.house.put(CHANGES[0])
        self.house.changes().clear()
        self.house.changes().append(CHANGES[1])
        for entry in book:
            if entry[0] != "done":
                entry[2].append(5)
        book.clear()
        for addresses in self.house.parted():
            addresses.append(())
        for moment in self.house.run().moments():
            moment[1].append("more")
            moment[2].append("more")
        self.house.run().setting.start().clear()
        self.assert_stands(self.house, [CHANGES[0]])
        self.assert_book(self.house, self.house.put, CHANGES[2])
        self.assert_stands(self.house, [CHANGES[0], CHANGES[2]])

    def test_a_told_run_stays_as_it_was(self):
        run = self.house.run()
        self.house.put(CHANGES[0])
        self.assertEqual(run.moments(), self.first.moments())
        self.assertTrue(run.setting.alike(self.setting))

    def test_a_told_run_s_setting_may_be_changed(self):
        self.house.run().setting.bound = 1
        self.house.run().setting.program = read_program("main")
        self.house.put(CHANGES[0])
        self.assert_stands(self.house, [CHANGES[0]])

    def test_two_houses_of_one_setting(self):
        other = House(self.setting)
        self.house.put(CHANGES[0])
        self.assert_stands(other, [])
        other.put(CHANGES[3])
        self.assert_stands(self.house, [CHANGES[0]])
        self.assert_stands(other, [CHANGES[3]])


if __name__ == "__main__":
    unittest.main()
