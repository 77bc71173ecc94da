"""The checker: books that are let by, and the entry at which others fail [7.1, 7.2, 0.2, 0.3]."""

import unittest

from hadbeen import errors
from hadbeen.checker import check
from hadbeen.errors import BadBook
from hadbeen.programs import read_program
from hadbeen.redo import had_been
from hadbeen.runs import Run, run_of
from hadbeen.settings import Setting

A, B, C, I = ("box", (), "a"), ("box", (), "b"), ("box", (), "c"), ("box", (), "i")


def setting_of(*lines, start=None, bound=400, forced=None):
    return Setting(read_program("\n".join(lines)), start or {}, bound, forced)


def changed(setting, *changes):
    for change in changes:
        setting = setting.changed(change)
    return setting


class CheckCase(unittest.TestCase):
    LINES = ("fun f a", "give plus a 1", "main", "set a 1", "set b 2", "call c f a", "if c", "tell b", "tell c", "else",
             "end", "while less i 2", "set i plus i 1", "end", "tell a")

    def setUp(self):
        self.setting = setting_of(*self.LINES)
        self.old = run_of(self.setting)
        self.other = changed(self.setting, ("row", 4, "set b 3"))
        # Its moments in order, each with the other entries that may stand for it, or for it and those behind it.
        self.book = [("kept", (3,), []), ("done", (4,)), ("part", (5,), [0]), ("kept", (6,), [2]), ("done", (6, 0, 7)),
                     ("kept", (6, 0, 8), [2]), ("part", (11, 0), [-1]), ("kept", (14,), [0])]

    def assert_let_by(self, old, setting, book):
        before = repr(book)
        run = check(old, setting, book)
        wanted = run_of(setting)
        self.assertIsInstance(run, Run)
        self.assertEqual(run.moments(), wanted.moments())
        self.assertEqual(run.end(), wanted.end())
        self.assertEqual(run.tells(), wanted.tells())
        self.assertEqual(run.addresses(), wanted.addresses())
        for many in range(len(wanted.moments()) + 1):
            self.assertEqual(run.behind(many), wanted.behind(many))
        self.assertTrue(run.setting.alike(setting))
        self.assertEqual(repr(book), before)
        return run

    def assert_bad(self, number, book, old=None, setting=None):
        old, setting = old or self.old, setting or self.other
        with self.subTest(book=book):
            before = (repr(book), old.moments(), setting.start(), setting.program.text())
            with self.assertRaises(errors.HadError) as caught:
                check(old, setting, book)
            self.assertIs(type(caught.exception), BadBook)
            self.assertEqual(caught.exception.number, number)
            self.assertIs(type(caught.exception.number), int)
            self.assertEqual((repr(book), old.moments(), setting.start(), setting.program.text()), before)

    def with_entry(self, number, *entries):
        return self.book[:number] + list(entries) + self.book[number + 1:]


class LetByTest(CheckCase):
    def test_the_told_book(self):
        self.assertEqual(had_been(self.old, self.other)[1], self.book)
        self.assert_let_by(self.old, self.other, self.book)

    def test_the_told_books_of_changes_of_each_kind(self):
        for changes in ((), (("start", A, 4),), (("start", I, 1),), (("row", 5, "call b f 4"),),
                        (("row", 1, "give a"),), (("goes", (6,), False),), (("goes", (11, 0), False),),
                        (("goes", (11, 2), True), ("start", I, 5), ("row", 3, "skip"))):
            setting = changed(self.setting, *changes)
            self.assert_let_by(self.old, setting, had_been(self.old, setting)[1])

    def test_all_done(self):
        book = [("done", address) for address in run_of(self.other).addresses()]
        self.assert_let_by(self.old, self.other, book)

    def test_kept_moments_done(self):
        self.assert_let_by(self.old, self.other, self.with_entry(0, ("done", (3,))))
        self.assert_let_by(self.old, self.other, self.with_entry(3, ("done", (6,))))
        self.assert_let_by(self.old, self.other, self.with_entry(7, ("done", (14,))))

    def test_a_part_kept_piece_by_piece(self):
        book = self.book[:2] + [
            ("kept", (5,), [0]), ("kept", (5, 0, 1), [2]), ("kept", (6,), [3]), ("done", (6, 0, 7)),
            ("kept", (6, 0, 8), [3]), ("kept", (11, 0), [-1]), ("kept", (11, 0, 12), [-1]), ("part", (11, 1), [8]),
            ("kept", (14,), [0])]
        self.assert_let_by(self.old, self.other, book)
        book[9:10] = [("done", (11, 1)), ("kept", (11, 1, 12), [8]), ("part", (11, 2), [10])]
        self.assert_let_by(self.old, self.other, book)
        book[11:12] = [("kept", (11, 2), [10])]
        self.assert_let_by(self.old, self.other, book)

    def test_a_book_of_no_entries(self):
        old = run_of(setting_of("main"))
        self.assert_let_by(old, changed(old.setting, ("start", A, 1)), [])

    def test_a_run_that_is_tired(self):
        old = run_of(setting_of("main", "while 1", "set i plus i 1", "end", bound=5))
        self.assert_let_by(old, old.setting, had_been(old, old.setting)[1])
        self.assert_let_by(old, old.setting, [("done", address) for address in old.addresses()])

    def test_a_run_that_fell(self):
        old = run_of(setting_of("main", "skip", "tell over 1 a", "skip"))
        run = self.assert_let_by(old, old.setting, [("kept", (1,), []), ("kept", (2,), [-1])])
        self.assertEqual(run.end(), ("fell", "nought", (2,)))
        self.assert_let_by(old, old.setting, [("kept", (1,), []), ("done", (2,))])
        self.assert_let_by(old, changed(old.setting, ("start", A, 1)),
                           [("kept", (1,), []), ("done", (2,)), ("done", (3,))])

    def test_an_alike_setting(self):
        self.assert_let_by(self.old, setting_of(*self.other.program.lines(), start={C: 0}), self.book)


class SpoiltTest(CheckCase):
    def test_an_entry_left_out(self):
        for number in range(len(self.book) - 1):
            # Of the makers some fail, but none ahead of the entry that stands there now.
            self.assert_bad(number, self.book[:number] + self.book[number + 1:])

    def test_too_few_entries(self):
        for number in range(len(self.book)):
            self.assert_bad(number, self.book[:number])

    def test_no_entries(self):
        self.assert_bad(0, [])

    def test_an_entry_twice(self):
        for number in range(len(self.book)):
            self.assert_bad(number + 1, self.with_entry(number, self.book[number], self.book[number]))

    def test_entries_exchanged(self):
        for number in range(len(self.book) - 1):
            book = list(self.book)
            book[number:number + 2] = [book[number + 1], book[number]]
            self.assert_bad(number, book)

    def test_entries_behind_the_run_s_end(self):
        for more in (("done", (15,)), ("done", (14,)), ("kept", (14,), [0]), ("part", (11, 0), [-1]), None, (), [], 5):
            self.assert_bad(8, self.book + [more])
            self.assert_bad(8, self.book + [more, more])
        empty = run_of(setting_of("main"))
        for more in (("done", ()), ("kept", (), []), ("part", (), []), ("done", (0,)), ("done", (1,)), None, "x"):
            self.assert_bad(0, [more], empty, empty.setting)

    def test_entries_behind_the_last_moment_of_a_run_that_is_tired_or_fell(self):
        old = run_of(setting_of("main", "while 1", "end", bound=2))
        book = [("kept", (1, 0), []), ("kept", (1, 1), [])]
        self.assert_bad(2, book + [("done", (1, 2))], old, old.setting)
        self.assert_bad(1, book[:1], old, old.setting)
        old = run_of(setting_of("main", "tell over 1 0", "skip"))
        self.assert_bad(1, [("kept", (1,), []), ("done", (2,))], old, old.setting)

    def test_another_address(self):
        for number, entry in enumerate(self.book):
            for address in ((), (0,), (2,), (3, 0), (4,), (6, 0), (11,), (11, 1), (11, 2), (99,), (10 ** 39,),
                            entry[1] + (0,), entry[1][:-1], entry[1] + entry[1]):
                if address != entry[1]:
                    self.assert_bad(number, self.with_entry(number, (entry[0], address) + entry[2:]))

    def test_what_is_no_address(self):
        for number, entry in enumerate(self.book):
            for address in (None, 3, "3", "", list(entry[1]), {}, True, entry[1] + (None,), entry[1] + ("1",),
                            (entry[1],), {3: 4}, str(entry[1])):
                self.assert_bad(number, self.with_entry(number, (entry[0], address) + entry[2:]))

    def test_truths_within_an_address(self):
        old = run_of(setting_of("main", "if 1", "skip", "else", "end", "while less i 1", "set i 1", "end"))
        book = had_been(old, old.setting)[1]
        self.assertEqual(book, [("part", (1,), []), ("part", (5, 0), [-1])])
        self.assert_bad(0, [("part", (True,), []), book[1]], old, old.setting)
        self.assert_bad(1, [book[0], ("part", (5, False), [-1])], old, old.setting)
        done = [("done", address) for address in old.addresses()]
        for number, address in ((1, (True, 0, 2)), (1, (1, False, 2)), (2, (5, False)), (4, (5, True))):
            self.assert_bad(number, done[:number] + [("done", address)] + done[number + 1:], old, old.setting)

    def test_makers_one_more_one_fewer_another_number(self):
        for number, entry in enumerate(self.book):
            if entry[0] != "done":
                makers = entry[2]
                spoilt = [makers + [-1], makers + [0], makers + [number], [-1] + makers, makers + makers + [1]]
                spoilt += [makers[:-1], makers[1:], [other + 1 for other in makers], [other - 1 for other in makers],
                           [-1] * len(makers), [number] * len(makers), [-2] * len(makers), [10 ** 39] * len(makers)]
                for other in spoilt:
                    if other != makers:
                        self.assert_bad(number, self.with_entry(number, entry[:2] + (other,)))

    def test_makers_that_are_no_list_of_whole_numbers(self):
        for number, entry in enumerate(self.book):
            if entry[0] != "done":
                for makers in (None, tuple(entry[2]), "", "0", 0, {}, {0: 0}, True, [None], ["0"], [[0]], [()],
                               [str(other) for other in entry[2]] + [""], [entry[2]], [True], [False],
                               entry[2] + [None]):
                    self.assert_bad(number, self.with_entry(number, entry[:2] + (makers,)))

    def test_a_truth_among_the_makers(self):
        old = run_of(setting_of("main", "set a 1", "set b 2", "tell plus a b"))
        book = [("kept", (1,), []), ("kept", (2,), []), ("kept", (3,), [0, 1])]
        self.assert_let_by(old, old.setting, book)
        for makers in ([False, 1], [0, True], [False, True]):
            self.assert_bad(2, book[:2] + [("kept", (3,), makers)], old, old.setting)

    def test_makers_in_another_order(self):
        old = run_of(setting_of("main", "set a 1", "set b 2", "tell plus a b"))
        book = [("kept", (1,), []), ("kept", (2,), []), ("kept", (3,), [1, 0])]
        self.assert_bad(2, book, old, old.setting)

    def test_makers_are_entries_not_moments(self):
        old = run_of(setting_of("main", "if 1", "set a 1", "else", "end", "tell a"))
        self.assert_let_by(old, old.setting, [("part", (1,), []), ("kept", (5,), [0])])
        self.assert_bad(1, [("part", (1,), []), ("kept", (5,), [1])], old, old.setting)
        pieces = [("kept", (1,), []), ("kept", (1, 0, 2), [])]
        self.assert_let_by(old, old.setting, pieces + [("kept", (5,), [1])])
        self.assert_bad(2, pieces + [("kept", (5,), [0])], old, old.setting)

    def test_other_forms(self):
        for number, entry in enumerate(self.book):
            for other in (None, 0, 1, True, "", "done", "done 3", [], {}, (), list(entry), (entry,), [entry],
                          entry[:1], entry[1:], entry[:-1], entry + (None,), entry + ([],), (None,) + entry[1:],
                          ("",) + entry[1:], ("Done",) + entry[1:], ("keep",) + entry[1:], (True,) + entry[1:],
                          (0,) + entry[1:], (["done"],) + entry[1:], (("done",),) + entry[1:], ({},) + entry[1:],
                          (entry[1], entry[0]) + entry[2:], {"done": entry[1]}, 10 ** 39, -1, ("done",), ("kept",),
                          (None, None), (None, None, None), ("done", entry[1], []), ("kept", entry[1]),
                          ("part", entry[1]), ("done", entry[1], None)):
                self.assert_bad(number, self.with_entry(number, other))

    def test_things_that_hold_themselves(self):
        ring = []
        ring.append(ring)
        for other in (ring, ("kept", (3,), ring), ("kept", ring, []), (ring, (3,), [])):
            with self.assertRaises(BadBook) as caught:
                check(self.old, self.other, [other])
            self.assertEqual(caught.exception.number, 0)

    def test_the_first_fault_counts(self):
        book = list(self.book)
        book[2], book[5] = None, None
        self.assert_bad(2, book)
        self.assert_bad(2, book[:4])
        self.assert_bad(2, book + [None])


class KeptWronglyTest(CheckCase):
    def test_a_moment_whose_line_reads_otherwise(self):
        self.assert_bad(1, self.with_entry(1, ("kept", (4,), [])))

    def test_a_moment_that_reads_otherwise(self):
        self.assert_bad(4, self.with_entry(4, ("kept", (6, 0, 7), [1])))
        self.assert_bad(4, self.with_entry(4, ("kept", (6, 0, 7), [0])))

    def test_a_part_that_reads_otherwise(self):
        book = self.book[:3] + [("part", (6,), [2, 1])] + self.book[6:]
        self.assert_bad(3, book)

    def test_a_moment_that_goes_otherwise(self):
        setting = changed(self.setting, ("goes", (6,), False))
        book = [("kept", (3,), []), ("kept", (4,), []), ("part", (5,), [0])]
        rest = [("part", (11, 0), [-1]), ("kept", (14,), [0])]
        self.assert_let_by(self.old, setting, book + [("done", (6,))] + rest)
        self.assert_bad(3, book + [("kept", (6,), [2])] + rest, setting=setting)
        self.assert_bad(3, book + [("part", (6,), [2, 1])] + rest, setting=setting)

    def test_a_part_with_a_look_that_goes_otherwise(self):
        setting = changed(self.setting, ("goes", (11, 1), False))
        book = [("kept", (3,), []), ("kept", (4,), []), ("part", (5,), [0]), ("part", (6,), [2, 1])]
        self.assert_bad(4, book + [("part", (11, 0), [-1]), ("kept", (14,), [0])], setting=setting)
        pieces = [("kept", (11, 0), [-1]), ("kept", (11, 0, 12), [-1])]
        self.assert_bad(6, book + pieces + [("kept", (11, 1), [5]), ("kept", (14,), [0])], setting=setting)
        self.assert_let_by(self.old, setting, book + pieces + [("done", (11, 1)), ("kept", (14,), [0])])

    def test_a_part_with_a_line_that_reads_otherwise(self):
        setting = changed(self.setting, ("row", 1, "give plus 1 a"))
        book = [("kept", (3,), []), ("kept", (4,), [])]
        self.assert_bad(2, book + [("part", (5,), [0])], setting=setting)
        self.assert_bad(3, book + [("kept", (5,), [0]), ("kept", (5, 0, 1), [2])], setting=setting)

    def test_a_give_whose_call_s_line_reads_otherwise(self):
        setting = changed(self.setting, ("row", 5, "call c f 1"))
        book = [("kept", (3,), []), ("kept", (4,), []), ("done", (5,))]
        rest = [("part", (6,), [3, 1]), ("part", (11, 0), [-1]), ("kept", (14,), [0])]
        self.assert_let_by(self.old, setting, book + [("done", (5, 0, 1))] + rest)
        self.assert_bad(3, book + [("kept", (5, 0, 1), [2])] + rest, setting=setting)

    def test_moments_that_have_no_part(self):
        self.assert_bad(0, self.with_entry(0, ("part", (3,), [])))
        self.assert_bad(7, self.with_entry(7, ("part", (14,), [0])))
        pieces = self.book[:2] + [("kept", (5,), [0]), ("part", (5, 0, 1), [2])]
        self.assert_bad(3, pieces)

    def test_moments_that_the_old_run_has_not(self):
        setting = changed(self.setting, ("goes", (11, 2), True))
        book = had_been(self.old, setting)[1]
        number = book.index(("done", (11, 2, 12)))
        for kind in ("kept", "part"):
            self.assert_bad(number, book[:number] + [(kind, (11, 2, 12), [number - 2])], setting=setting)
            self.assert_bad(number + 1, book[:number + 1] + [(kind, (11, 3), [number])], setting=setting)

    def test_a_part_that_is_not_whole(self):
        old = run_of(setting_of("main", "if 1", "skip", "else", "end", "skip", bound=2))
        self.assert_bad(0, [("part", (1,), [])], old, old.setting)
        old = run_of(setting_of("main", "if 1", "tell over 1 0", "else", "end"))
        self.assert_bad(0, [("part", (1,), [])], old, old.setting)
        old = run_of(setting_of("main", "if over 1 0", "else", "end"))
        self.assert_bad(0, [("part", (1,), [])], old, old.setting)

    def test_a_part_whose_moments_come_beyond_the_bound(self):
        lines = ("main", "if a", "skip", "else", "end", "if 1", "skip", "else", "end")
        for bound, number in ((3, 2), (4, None)):
            old = run_of(setting_of(*lines, bound=bound))
            setting = changed(old.setting, ("start", A, 1))
            book = [("done", (1,)), ("done", (1, 0, 2)), ("part", (5,), [])]
            if number is None:
                self.assert_let_by(old, setting, book)
            else:
                self.assert_bad(number, book, old, setting)
                self.assert_let_by(old, setting, book[:2] + [("kept", (5,), [])])

    def test_a_part_that_reads_from_outside_what_it_makes_later(self):
        old = run_of(setting_of("main", "if 1", "tell a", "set a 1", "else", "end"))
        self.assert_let_by(old, old.setting, [("part", (1,), [-1])])
        self.assert_bad(0, [("part", (1,), [0])], old, old.setting)
        self.assert_bad(0, [("part", (1,), [])], old, old.setting)
        self.assert_bad(0, [("part", (1,), [-1])], old, changed(old.setting, ("start", A, 2)))


class OwnTest(CheckCase):
    def test_a_told_book_that_was_changed_does_not_change_the_run(self):
        book = had_been(self.old, self.other)[1]
        run = check(self.old, self.other, book)
        before = run.moments()
        for entry in book:
            if entry[0] != "done":
                entry[2].append(5)
        book.clear()
        self.assertEqual(run.moments(), before)
        self.assertEqual(had_been(self.old, self.other)[1], self.book)

    def test_told_moments_are_the_asker_s_own(self):
        run = check(self.old, self.other, self.book)
        before = repr(run.moments())
        for moment in run.moments():
            moment[1].append("more")
            moment[2].append("more")
        self.assertEqual(repr(run.moments()), before)
        self.assert_let_by(self.old, self.other, self.book)

    def test_the_setting_may_change_behind_it(self):
        run = check(self.old, self.other, self.book)
        self.other.bound = 1
        self.assertEqual(run.setting.bound, 400)


if __name__ == "__main__":
    unittest.main()
