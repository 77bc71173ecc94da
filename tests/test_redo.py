"""What would have been: the new run and its book, entry by entry [6.1 to 6.5, 0.2, 0.3]."""

import unittest

from hadbeen.programs import read_program
from hadbeen.redo import had_been
from hadbeen.runs import Run, run_of
from hadbeen.settings import Setting


def box(name, frame=()):
    return ("box", frame, name)


A, B, C, D, I = box("a"), box("b"), box("c"), box("d"), box("i")


def setting_of(*lines, start=None, bound=400, forced=None):
    return Setting(read_program("\n".join(lines)), start or {}, bound, forced)


def changed(setting, *changes):
    for change in changes:
        setting = setting.changed(change)
    return setting


class RedoCase(unittest.TestCase):
    def assert_same_run(self, run, setting):
        wanted = run_of(setting)
        self.assertIsInstance(run, Run)
        self.assertEqual(run.moments(), wanted.moments())
        self.assertEqual(run.end(), wanted.end())
        self.assertEqual(run.tells(), wanted.tells())
        self.assertEqual(run.addresses(), wanted.addresses())
        for many in range(len(wanted.moments()) + 1):
            self.assertEqual(run.behind(many), wanted.behind(many))
        self.assertTrue(run.setting.alike(setting))
        self.assertEqual(run.setting.start(), setting.start())

    def assert_book(self, old, setting, book):
        told = had_been(old, setting)
        self.assertIs(type(told), tuple)
        self.assertEqual(len(told), 2)
        self.assert_same_run(told[0], setting)
        self.assertEqual(told[1], book)
        self.assertIs(type(told[1]), list)
        for entry in told[1]:
            self.assertIs(type(entry), tuple)
            self.assertIs(type(entry[1]), tuple)
            if entry[0] != "done":
                self.assertEqual([type(number) for number in entry[2]], [int] * len(entry[2]))
                self.assertIs(type(entry[2]), list)
        return told[0]


class OneChangeTest(RedoCase):
    LINES = ("fun f a", "set b times a 3", "give b", "main", "set a 1", "set b 2", "call c f a", "if less b 5",
             "set d plus b c", "else", "end", "while less i 2", "tell plus i a", "set i plus i 1", "end", "tell d")
    WHOLE = [("kept", (4,), []), ("kept", (5,), []), ("part", (6,), [0]), ("part", (7,), [1, 2]),
             ("part", (11, 0), [-1, 0]), ("kept", (15,), [3])]

    def setUp(self):
        self.setting = setting_of(*self.LINES)
        self.old = run_of(self.setting)

    def test_no_change(self):
        self.assert_book(self.old, self.setting, self.WHOLE)

    def test_a_setting_that_is_only_alike(self):
        self.assert_book(self.old, setting_of(*self.LINES, start={D: 0, ("cell", 4): 0}), self.WHOLE)

    def test_a_start_of_0_for_a_place_that_nobody_gave(self):
        self.assert_book(self.old, changed(self.setting, ("start", I, 0)), self.WHOLE)

    def test_a_start_that_nothing_reads(self):
        self.assert_book(self.old, changed(self.setting, ("start", A, 5), ("start", ("world", "w", 1), 5)), self.WHOLE)

    def test_an_address_to_which_no_moment_comes_is_forced(self):
        self.assert_book(self.old, changed(self.setting, ("goes", (99,), True), ("goes", (4,), False),
                                           ("goes", (11,), False), ("goes", (), True)), self.WHOLE)

    def test_forced_as_it_goes(self):
        self.assert_book(self.old, changed(self.setting, ("goes", (7,), True), ("goes", (11, 2), False)), self.WHOLE)

    def test_a_line_that_does_not_run_is_put_otherwise(self):
        lines = list(self.LINES)
        lines[9:10] = ["else", "tell 1"]
        old = run_of(setting_of(*lines))
        book = [entry[:1] + ((entry[1][0] + (entry[1][0] > 10),) + entry[1][1:],) + entry[2:] for entry in self.WHOLE]
        self.assert_book(old, changed(old.setting, ("row", 10, "tell 2")), book)

    def test_a_row_of_a_simple_kind(self):
        self.assert_book(self.old, changed(self.setting, ("row", 4, "set a 2")), [
            ("done", (4,)), ("kept", (5,), []),
            ("done", (6,)), ("done", (6, 0, 1)), ("done", (6, 0, 2)),
            ("kept", (7,), [1]), ("done", (7, 0, 8)),
            ("kept", (11, 0), [-1]), ("done", (11, 0, 12)), ("kept", (11, 0, 13), [-1]),
            ("kept", (11, 1), [9]), ("done", (11, 1, 12)), ("kept", (11, 1, 13), [9]),
            ("part", (11, 2), [12]), ("done", (15,))])

    def test_a_row_that_makes_the_same_otherwise(self):
        self.assert_book(self.old, changed(self.setting, ("row", 4, "set a plus 0 1")),
                         [("done", (4,))] + self.WHOLE[1:])

    def test_a_row_of_another_kind(self):
        self.assert_book(self.old, changed(self.setting, ("row", 15, "skip")), self.WHOLE[:5] + [("done", (15,))])

    def test_the_line_of_a_choice(self):
        self.assert_book(self.old, changed(self.setting, ("row", 7, "if 1")), self.WHOLE[:3] + [
            ("done", (7,)), ("kept", (7, 0, 8), [1, 2]), ("part", (11, 0), [-1, 0]), ("kept", (15,), [4])])

    def test_the_line_of_a_loop(self):
        self.assert_book(self.old, changed(self.setting, ("row", 11, "while less i 3")), self.WHOLE[:4] + [
            ("done", (11, 0)), ("kept", (11, 0, 12), [-1, 0]), ("kept", (11, 0, 13), [-1]),
            ("done", (11, 1)), ("kept", (11, 1, 12), [6, 0]), ("kept", (11, 1, 13), [6]),
            ("done", (11, 2)), ("done", (11, 2, 12)), ("done", (11, 2, 13)), ("done", (11, 3)),
            ("kept", (15,), [3])])

    def test_the_line_of_a_call_with_another_box(self):
        self.assert_book(self.old, changed(self.setting, ("row", 6, "call d f a")), self.WHOLE[:2] + [
            ("done", (6,)), ("kept", (6, 0, 1), [2]), ("done", (6, 0, 2)),
            ("kept", (7,), [1]), ("done", (7, 0, 8)), ("part", (11, 0), [-1, 0]), ("done", (15,))])

    def test_the_line_of_a_call_with_another_expression_of_the_same_value(self):
        self.assert_book(self.old, changed(self.setting, ("row", 6, "call c f 1")), self.WHOLE[:2] + [
            ("done", (6,)), ("kept", (6, 0, 1), [2]), ("done", (6, 0, 2)),
            ("part", (7,), [1, 4]), ("part", (11, 0), [-1, 0]), ("kept", (15,), [5])])

    def test_the_line_of_a_give(self):
        self.assert_book(self.old, changed(self.setting, ("row", 2, "give plus b 0")), self.WHOLE[:2] + [
            ("kept", (6,), [0]), ("kept", (6, 0, 1), [2]), ("done", (6, 0, 2)),
            ("part", (7,), [1, 4]), ("part", (11, 0), [-1, 0]), ("kept", (15,), [5])])

    def test_a_line_within_a_function(self):
        self.assert_book(self.old, changed(self.setting, ("row", 1, "set b 4")), self.WHOLE[:2] + [
            ("kept", (6,), [0]), ("done", (6, 0, 1)), ("done", (6, 0, 2)),
            ("kept", (7,), [1]), ("done", (7, 0, 8)), ("part", (11, 0), [-1, 0]), ("done", (15,))])

    def test_a_choice_is_forced(self):
        self.assert_book(self.old, changed(self.setting, ("goes", (7,), False)), self.WHOLE[:3] + [
            ("done", (7,)), ("part", (11, 0), [-1, 0]), ("done", (15,))])

    def test_a_look_is_forced(self):
        self.assert_book(self.old, changed(self.setting, ("goes", (11, 1), False)), self.WHOLE[:4] + [
            ("kept", (11, 0), [-1]), ("kept", (11, 0, 12), [-1, 0]), ("kept", (11, 0, 13), [-1]), ("done", (11, 1)),
            ("kept", (15,), [3])])
        self.assert_book(self.old, changed(self.setting, ("goes", (11, 2), True)), self.WHOLE[:4] + [
            ("kept", (11, 0), [-1]), ("kept", (11, 0, 12), [-1, 0]), ("kept", (11, 0, 13), [-1]),
            ("kept", (11, 1), [6]), ("kept", (11, 1, 12), [6, 0]), ("kept", (11, 1, 13), [6]),
            ("done", (11, 2)), ("done", (11, 2, 12)), ("done", (11, 2, 13)), ("done", (11, 3)),
            ("kept", (15,), [3])])

    def test_a_start_that_a_loop_reads(self):
        self.assert_book(self.old, changed(self.setting, ("start", I, 1)), self.WHOLE[:4] + [
            ("done", (11, 0)), ("done", (11, 0, 12)), ("done", (11, 0, 13)), ("done", (11, 1)),
            ("kept", (15,), [3])])

    def test_several_changes(self):
        setting = changed(self.setting, ("row", 6, "call a f a"), ("goes", (7,), False), ("start", C, 3),
                          ("start", I, 1))
        self.assert_book(self.old, setting, self.WHOLE[:2] + [
            ("done", (6,)), ("kept", (6, 0, 1), [2]), ("done", (6, 0, 2)), ("done", (7,)),
            ("done", (11, 0)), ("done", (11, 0, 12)), ("done", (11, 0, 13)), ("done", (11, 1)), ("done", (15,))])

    def test_a_line_put_otherwise_and_put_back(self):
        setting = changed(self.setting, ("row", 4, "set a 2"), ("row", 4, "set a 1"))
        self.assert_book(self.old, setting, self.WHOLE)

    def test_from_a_told_run_and_back(self):
        other = changed(self.setting, ("row", 4, "set a 2"))
        there = had_been(self.old, other)[0]
        self.assert_book(there, other, self.WHOLE)
        back = changed(other, ("row", 4, "set a 1"))
        run = self.assert_book(there, back, [
            ("done", (4,)), ("kept", (5,), []),
            ("done", (6,)), ("done", (6, 0, 1)), ("done", (6, 0, 2)),
            ("kept", (7,), [1]), ("done", (7, 0, 8)),
            ("kept", (11, 0), [-1]), ("done", (11, 0, 12)), ("kept", (11, 0, 13), [-1]),
            ("kept", (11, 1), [9]), ("done", (11, 1, 12)), ("kept", (11, 1, 13), [9]),
            ("part", (11, 2), [12]), ("done", (15,))])
        self.assertEqual(run.moments(), self.old.moments())


class KeepingTest(RedoCase):
    def test_an_answer_of_the_world(self):
        old = run_of(setting_of("main", "ask a w 1", "ask b w 2", "draw c w", "draw c w", "tell a", "tell b",
                                start={("world", "w", 1): 5}))
        drawn = [("kept", (3,), [-1, -1]), ("done", (4,))]
        self.assert_book(old, changed(old.setting, ("start", ("world", "w", 1), 6)), [
            ("done", (1,)), ("kept", (2,), [-1])] + drawn + [("done", (5,)), ("kept", (6,), [1])])
        self.assert_book(old, changed(old.setting, ("start", ("world", "w", 0), 6)), [
            ("kept", (1,), [-1]), ("kept", (2,), [-1]), ("done", (3,)), ("kept", (4,), [2, -1]),
            ("kept", (5,), [0]), ("kept", (6,), [1])])

    def test_a_draw_more_moves_those_behind_it(self):
        old = run_of(setting_of("main", "skip", "draw a w", "draw b v", start={("world", "w", 0): 3}))
        self.assert_book(old, changed(old.setting, ("row", 1, "draw c w")), [
            ("done", (1,)), ("done", (2,)), ("kept", (3,), [-1, -1])])

    def test_a_place_read_twice_has_one_maker(self):
        old = run_of(setting_of("main", "set a 2", "tell plus b times a plus a b"))
        self.assert_book(old, old.setting, [("kept", (1,), []), ("kept", (2,), [-1, 0])])

    def test_the_last_maker_counts(self):
        old = run_of(setting_of("main", "set a 2", "set a 3", "put 0 a", "tell plus a cell 0", "set a plus a 1",
                                "tell a"))
        self.assert_book(old, old.setting, [
            ("kept", (1,), []), ("kept", (2,), []), ("kept", (3,), [1]), ("kept", (4,), [1, 2]), ("kept", (5,), [1]),
            ("kept", (6,), [4])])

    def test_a_part_makes_all_that_its_moments_make(self):
        old = run_of(setting_of("main", "if 1", "set a 1", "set b 1", "else", "end", "tell plus a b", "tell c"))
        self.assert_book(old, old.setting, [("part", (1,), []), ("kept", (6,), [0, 0]), ("kept", (7,), [-1])])

    def test_a_place_made_ahead_within_the_part(self):
        old = run_of(setting_of("main", "if b", "set a 2", "tell a", "else", "end", "tell a", start={A: 1, B: 1}))
        self.assert_book(old, changed(old.setting, ("start", A, 9)), [("part", (1,), [-1]), ("kept", (6,), [0])])

    def test_a_place_read_ahead_of_its_making_within_the_part(self):
        old = run_of(setting_of("main", "if b", "tell a", "set a 2", "tell a", "else", "end", start={A: 1, B: 1}))
        self.assert_book(old, changed(old.setting, ("start", A, 9)), [
            ("kept", (1,), [-1]), ("done", (1, 0, 2)), ("kept", (1, 0, 3), []), ("kept", (1, 0, 4), [2])])

    def test_parts_within_a_part_that_may_not_be_kept(self):
        lines = ("fun f a", "give plus a 1", "main", "if 1", "if 1", "call a f 2", "else", "end", "tell b", "else",
                 "end")
        old = run_of(setting_of(*lines))
        self.assert_book(old, changed(old.setting, ("start", B, 4)), [
            ("kept", (3,), []), ("part", (3, 0, 4), []), ("done", (3, 0, 8))])

    def test_a_function_s_line_is_the_same_for_all_its_calls(self):
        lines = ("fun f a", "if a", "tell 1", "else", "tell 2", "end", "give a", "main", "call b f 0", "call b f 1")
        old = run_of(setting_of(*lines))
        self.assert_book(old, changed(old.setting, ("row", 4, "tell 3")), [
            ("kept", (8,), []), ("kept", (8, 0, 1), [0]), ("done", (8, 0, 1, 1, 4)), ("kept", (8, 0, 6), [0]),
            ("part", (9,), [])])

    def test_a_call_of_another_function(self):
        lines = ("fun f a", "give a", "fun g b", "give plus b 1", "main", "call c f 3", "tell c")
        old = run_of(setting_of(*lines))
        self.assert_book(old, changed(old.setting, ("row", 5, "call c g 3")), [
            ("done", (5,)), ("done", (5, 0, 3)), ("done", (6,))])

    def test_a_part_to_which_the_new_run_comes_anew(self):
        lines = ("main", "if a", "if 1", "tell b", "else", "end", "else", "end")
        one = setting_of(*lines, start={A: 1})
        off = had_been(run_of(one), changed(one, ("start", A, 0)))
        self.assertEqual(off[1], [("done", (1,))])
        self.assert_book(off[0], one, [("done", (1,)), ("done", (1, 0, 2)), ("done", (1, 0, 2, 0, 3))])
        self.assert_book(run_of(one), changed(one, ("start", A, 5)), [("done", (1,)), ("part", (1, 0, 2), [-1])])

    def test_the_next_look_s_part(self):
        lines = ("main", "while less i 3", "if same i 0", "tell a", "else", "end", "set i plus i 1", "end")
        old = run_of(setting_of(*lines))
        self.assert_book(old, changed(old.setting, ("start", A, 1)), [
            ("kept", (1, 0), [-1]), ("kept", (1, 0, 2), [-1]), ("done", (1, 0, 2, 0, 3)), ("kept", (1, 0, 6), [-1]),
            ("part", (1, 1), [3])])

    def test_the_choices_and_looks_of_a_part_that_are_forced_otherwise(self):
        lines = ("main", "if 1", "if 1", "tell 1", "else", "end", "while 0", "end", "else", "end")
        old = run_of(setting_of(*lines))
        self.assert_book(old, changed(old.setting, ("goes", (1, 0, 2), False)), [
            ("kept", (1,), []), ("done", (1, 0, 2)), ("part", (1, 0, 6, 0), [])])
        self.assert_book(old, changed(old.setting, ("goes", (1, 0, 6, 0), True)), [
            ("kept", (1,), []), ("part", (1, 0, 2), []), ("done", (1, 0, 6, 0)), ("done", (1, 0, 6, 1))])

    def test_a_forced_address_goes_free(self):
        setting = setting_of("main", "if a", "tell 1", "else", "tell 2", "end", forced={(1,): True})
        old = run_of(setting)
        self.assert_book(old, changed(setting, ("goes", (1,), None)), [("done", (1,)), ("done", (1, 1, 4))])
        self.assert_book(old, changed(setting, ("start", A, 1)), [("done", (1,)), ("kept", (1, 0, 2), [])])
        free = changed(setting, ("start", A, 1), ("goes", (1,), None))
        self.assert_book(old, free, [("done", (1,)), ("kept", (1, 0, 2), [])])
        # What it looked at first is of no account: it goes as it went.
        self.assert_book(run_of(changed(setting, ("start", A, 1))), free, [("part", (1,), [-1])])


class EndsTest(RedoCase):
    def test_main_without_rows(self):
        old = run_of(setting_of("main"))
        self.assert_book(old, changed(old.setting, ("start", A, 1), ("goes", (), False)), [])

    def test_a_part_that_ends_where_the_run_tired(self):
        old = run_of(setting_of("main", "if 1", "skip", "else", "end", "skip", bound=2))
        self.assertEqual(old.end(), ("tired",))
        self.assert_book(old, old.setting, [("kept", (1,), []), ("kept", (1, 0, 2), [])])

    def test_a_loop_that_tires(self):
        old = run_of(setting_of("main", "while 1", "if 1", "else", "end", "end", bound=5))
        self.assert_book(old, old.setting, [
            ("kept", (1, 0), []), ("part", (1, 0, 2), []), ("kept", (1, 1), []), ("part", (1, 1, 2), []),
            ("kept", (1, 2), [])])

    def test_a_run_that_fell(self):
        old = run_of(setting_of("main", "if 1", "tell over 6 a", "else", "end", "skip"))
        self.assert_book(old, old.setting, [("kept", (1,), []), ("kept", (1, 0, 2), [-1])])
        self.assert_book(old, changed(old.setting, ("start", A, 2)), [
            ("kept", (1,), []), ("done", (1, 0, 2)), ("done", (5,))])

    def test_a_run_that_falls_now(self):
        old = run_of(setting_of("main", "if 1", "tell over 6 a", "else", "end", "skip", start={A: 2}))
        self.assert_book(old, changed(old.setting, ("start", A, 0)), [("kept", (1,), []), ("done", (1, 0, 2))])

    def test_choices_looks_and_calls_that_fell_are_kept_as_moments(self):
        for lines, address in ((("main", "if over 1 0", "else", "end"), (1,)),
                               (("main", "while over 1 0", "end"), (1, 0)),
                               (("fun f a", "give a", "main", "call a f over 1 0"), (3,))):
            old = run_of(setting_of(*lines))
            self.assert_book(old, changed(old.setting, ("goes", address, True)), [("kept", address, [])])

    def test_calls_that_are_too_deep(self):
        old = run_of(setting_of("fun f", "call a f", "give a", "main", "call a f"))
        self.assert_book(old, old.setting, [("kept", (4,) + (0, 1) * many, []) for many in range(7)])

    def test_a_part_whose_moments_come_beyond_the_bound(self):
        lines = ("main", "while less i n", "set i plus i 1", "end", "if 1", "skip", "skip", "else", "end")
        n = box("n")
        for bound in range(1, 9):
            old = run_of(setting_of(*lines, bound=bound))
            setting = changed(old.setting, ("start", n, 1))
            looped = [("done", (1, 0)), ("done", (1, 0, 2)), ("done", (1, 1))]
            if bound >= 6:
                book = looped + [("part", (4,), [])]
            elif bound == 5:
                # Of the part two moments have room, and it tires.
                book = looped + [("kept", (4,), []), ("kept", (4, 0, 5), [])]
            else:
                book = (looped + [("kept", (4,), [])])[:bound]
            self.assert_book(old, setting, book)

    def test_a_part_that_just_reaches_the_bound_and_would_be_followed(self):
        lines = ("main", "if a", "skip", "else", "end", "if 1", "skip", "else", "end", "skip")
        old = run_of(setting_of(*lines, bound=4))
        self.assertEqual(old.end(), ("ended",))
        self.assert_book(old, changed(old.setting, ("start", A, 1)), [
            ("done", (1,)), ("done", (1, 0, 2)), ("part", (5,), [])])
        self.assertEqual(had_been(old, changed(old.setting, ("start", A, 1)))[0].end(), ("tired",))

    def test_a_new_run_that_goes_on_where_the_old_one_tired(self):
        lines = ("main", "while less i n", "set i plus i 1", "end", "tell i")
        old = run_of(setting_of(*lines, start={box("n"): 9}, bound=4))
        self.assertEqual(old.end(), ("tired",))
        self.assert_book(old, changed(old.setting, ("goes", (1, 1), False)), [
            ("kept", (1, 0), [-1, -1]), ("kept", (1, 0, 2), [-1]), ("done", (1, 1)), ("done", (4,))])

    def test_long_runs(self):
        lines = ("main", "while less i 198", "set i plus i 1", "end", "tell a")
        old = run_of(setting_of(*lines))
        self.assert_book(old, changed(old.setting, ("start", A, 1)), [("part", (1, 0), [-1]), ("done", (4,))])
        told = had_been(old, changed(old.setting, ("goes", (1, 198), True)))
        self.assert_same_run(told[0], changed(old.setting, ("goes", (1, 198), True)))
        self.assertEqual([entry[0] for entry in told[1]], ["kept"] * 396 + ["done"] * 3 + ["kept"])


class OwnTest(RedoCase):
    def setUp(self):
        self.setting = setting_of("main", "set a 1", "if a", "tell a", "else", "end", "tell b")
        self.old = run_of(self.setting)

    def test_what_is_handed_in_is_not_changed(self):
        before = (self.old.moments(), self.old.end(), self.old.behind(4))
        other = changed(self.setting, ("row", 1, "set a 2"), ("start", B, 4))
        had_been(self.old, other)
        self.assertEqual((self.old.moments(), self.old.end(), self.old.behind(4)), before)
        self.assertEqual(other.start(), {B: 4})
        self.assertTrue(self.old.setting.alike(self.setting))

    def test_what_was_handed_in_may_change(self):
        other = changed(self.setting, ("start", B, 4))
        run = had_been(self.old, other)[0]
        other.bound = 1
        other.program = read_program("main")
        self.assertEqual(run.setting.bound, 400)
        self.assertEqual(run.setting.program.text(), self.setting.program.text())
        self.assertEqual(run.behind(0), {B: 4})

    def test_told_things_are_the_asker_s_own(self):
        told = had_been(self.old, self.setting)
        for entry in told[1]:
            entry[2].append(7)
        told[1].clear()
        for moment in told[0].moments():
            moment[1].append("more")
            moment[2].append("more")
        self.assert_book(self.old, self.setting, [("kept", (1,), []), ("part", (2,), [0]), ("kept", (6,), [-1])])
        self.assert_same_run(told[0], self.setting)

    def test_asked_again_the_same_is_told(self):
        other = changed(self.setting, ("start", B, 4))
        one, two = had_been(self.old, other), had_been(self.old, other)
        self.assertEqual(one[1], two[1])
        self.assertEqual(one[0].moments(), two[0].moments())


if __name__ == "__main__":
    unittest.main()
