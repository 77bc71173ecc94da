"""Parts of a run: which there are, what they read and make, their lines, and which are whole [5.1 to 5.3, 0.3]."""

import unittest

from hadbeen import errors
from hadbeen.errors import NoMoment, NoPart
from hadbeen.parts import is_whole, lines_of, made_by, outside, part_of
from hadbeen.programs import read_program
from hadbeen.runs import run_of
from hadbeen.settings import Setting

ALL = (part_of, outside, made_by, lines_of, is_whole)


def box(name, frame=()):
    return ("box", frame, name)


A, B, C, D, I = box("a"), box("b"), box("c"), box("d"), box("i")


def run_lines(*lines, start=None, bound=400, forced=None):
    return run_of(Setting(read_program("\n".join(lines)), start or {}, bound, forced))


class PartCase(unittest.TestCase):
    def assert_refused(self, refusal, run, address):
        for asked in ALL:
            with self.subTest(asked=asked.__name__, address=address):
                with self.assertRaises(errors.HadError) as caught:
                    asked(run, address)
                self.assertIs(type(caught.exception), refusal)

    def assert_part(self, run, address, span, reads, makes, lines, whole):
        with self.subTest(address=address):
            self.assertEqual(part_of(run, address), span)
            self.assertIs(type(part_of(run, address)), tuple)
            self.assertEqual(outside(run, address), reads)
            self.assertEqual(made_by(run, address), makes)
            self.assertEqual(lines_of(run, address), lines)
            self.assertIs(is_whole(run, address), whole)


class PartsTest(PartCase):
    LINES = ("fun f a", "if a", "set b plus a x", "else", "end", "give plus a b", "main", "set a 1", "if a",
             "put 3 plus a c", "tell cell 3", "else", "end", "while less i 2", "call d f i", "set i plus i 1", "end",
             "tell d")

    def setUp(self):
        self.run_told = run_lines(*self.LINES)
        self.one, self.two = (13, 0, 14), (13, 1, 14)

    def test_the_moments_are_those_that_the_parts_are_told_of(self):
        self.assertEqual(self.run_told.addresses(), [
            (7,), (8,), (8, 0, 9), (8, 0, 10), (13, 0), (13, 0, 14), (13, 0, 14, 0, 1), (13, 0, 14, 0, 5), (13, 0, 15),
            (13, 1), (13, 1, 14), (13, 1, 14, 0, 1), (13, 1, 14, 0, 1, 0, 2), (13, 1, 14, 0, 5), (13, 1, 15), (13, 2),
            (17,)])

    def test_a_choice(self):
        self.assert_part(self.run_told, (8,), (1, 4), [(A, 1), (C, 0)], {("cell", 3): 1}, [8, 9, 10], True)

    def test_a_choice_alone(self):
        self.assert_part(self.run_told, self.one + (0, 1), (6, 7), [(box("a", self.one), 0)], {}, [1], True)

    def test_a_call(self):
        self.assert_part(
            self.run_told, self.one, (5, 8), [(I, 0), (box("b", self.one), 0)], {box("a", self.one): 0, D: 0},
            [1, 5, 14], True)
        self.assert_part(
            self.run_told, self.two, (10, 14), [(I, 1), (box("x", self.two), 0)],
            {box("a", self.two): 1, box("b", self.two): 1, D: 2}, [1, 2, 5, 14], True)

    def test_looks_have_all_that_comes_behind_of_the_loop(self):
        made = {box("a", self.two): 1, box("b", self.two): 1, D: 2, I: 2}
        lines = [1, 2, 5, 13, 14, 15]
        self.assert_part(
            self.run_told, (13, 0), (4, 16), [(I, 0), (box("b", self.one), 0), (box("x", self.two), 0)],
            {box("a", self.one): 0, **made}, lines, True)
        self.assert_part(
            self.run_told, (13, 1), (9, 16), [(I, 1), (box("x", self.two), 0)], made, lines, True)
        self.assert_part(self.run_told, (13, 2), (15, 16), [(I, 2)], {}, [13], True)

    def test_addresses_without_a_moment(self):
        for address in ((), (0,), (6,), (8, 0), (8, 1, 11), (13,), (13, 3), (13, 2, 14), (18,), (1,), (8, 0, 9, 0),
                        (10 ** 39,), (13, 10 ** 39)):
            self.assert_refused(NoMoment, self.run_told, address)
        self.assert_refused(NoMoment, run_lines("main"), ())

    def test_addresses_of_simple_rows_and_gives(self):
        for address in ((7,), (8, 0, 9), (8, 0, 10), (13, 0, 14, 0, 5), (13, 0, 15), (13, 1, 14, 0, 1, 0, 2), (17,)):
            self.assert_refused(NoPart, self.run_told, address)

    def test_every_kind_of_simple_row_has_none(self):
        run = run_lines("main", "skip", "set a 1", "put 1 1", "ask a w 1", "draw a w", "tell 1")
        for number in range(1, 7):
            self.assert_refused(NoPart, run, (number,))

    def test_a_row_whose_number_begins_like_another(self):
        run = run_lines("main", "if 1", "skip", "else", "end", "skip", "skip", "skip", "skip", "skip", "if 1", "skip",
                        "else", "end")
        self.assertEqual(part_of(run, (1,)), (0, 2))
        self.assertEqual(part_of(run, (10,)), (7, 9))

    def test_two_loops_behind_one_another(self):
        run = run_lines("main", "while less a 1", "set a 1", "end", "while less b 1", "set b 1", "end")
        self.assertEqual(part_of(run, (1, 0)), (0, 3))
        self.assertEqual(part_of(run, (1, 1)), (2, 3))
        self.assertEqual(part_of(run, (4, 0)), (3, 6))

    def test_a_loop_within_a_loop(self):
        run = run_lines("main", "while less i 2", "set a 0", "while less a 1", "set a 1", "end", "set i plus i 1",
                        "end")
        self.assertEqual(part_of(run, (1, 0, 3, 0)), (2, 5))
        self.assertEqual(part_of(run, (1, 0, 3, 1)), (4, 5))
        self.assertEqual(part_of(run, (1, 1, 3, 0)), (8, 11))
        self.assertEqual(part_of(run, (1, 0)), (0, 13))
        self.assertEqual(outside(run, (1, 0, 3, 0)), [(A, 0)])
        self.assertEqual(outside(run, (1, 1, 3, 1)), [(A, 1)])
        self.assertEqual(lines_of(run, (1, 1)), [1, 2, 3, 4, 6])

    def test_looks_of_two_figures(self):
        run = run_lines("main", "while less i 12", "set i plus i 1", "end", "skip")
        for k in range(13):
            self.assertEqual(part_of(run, (1, k)), (2 * k, 25))


class OutsideTest(PartCase):
    def test_a_place_made_ahead_within_the_part_is_not_from_outside(self):
        run = run_lines("main", "if 1", "set a 2", "tell plus a b", "set b 3", "tell b", "else", "end", start={B: 7})
        self.assertEqual(outside(run, (1,)), [(B, 7)])
        self.assertEqual(made_by(run, (1,)), {A: 2, B: 3})

    def test_a_moment_reads_ahead_of_what_it_makes(self):
        run = run_lines("main", "if 1", "set a plus a 1", "put 0 plus cell 0 a", "else", "end", start={A: 5})
        self.assertEqual(outside(run, (1,)), [(A, 5), (("cell", 0), 0)])
        self.assertEqual(made_by(run, (1,)), {A: 6, ("cell", 0): 6})

    def test_each_place_once_with_the_value_of_the_first_read(self):
        run = run_lines("main", "if a", "tell b", "tell a", "set a 9", "tell a", "tell b", "else", "end",
                        start={A: 4, B: 5})
        self.assertEqual(outside(run, (1,)), [(A, 4), (B, 5)])

    def test_draws_within_a_part(self):
        run = run_lines("main", "if 1", "draw a w", "draw a w", "ask b w a", "else", "end", start={("world", "w", 1): 3})
        self.assertEqual(outside(run, (1,)), [
            (("drawn", "w"), 0), (("world", "w", 0), 0), (("world", "w", 1), 3), (("world", "w", 3), 0)])
        self.assertEqual(made_by(run, (1,)), {A: 3, ("drawn", "w"): 2, B: 0})

    def test_what_was_made_ahead_of_the_part_is_from_outside(self):
        run = run_lines("main", "set a 3", "if a", "tell a", "else", "end")
        self.assertEqual(outside(run, (2,)), [(A, 3)])

    def test_a_call_reads_its_expressions_from_outside_and_makes_the_caller_s_box(self):
        run = run_lines("fun f a b", "set a plus a b", "give a", "main", "call a f a a", start={A: 2})
        at = (4,)
        self.assertEqual(outside(run, at), [(A, 2)])
        self.assertEqual(made_by(run, at), {box("a", at): 4, box("b", at): 2, A: 4})
        self.assertEqual(lines_of(run, at), [1, 2, 4])

    def test_lines_rise_though_the_rows_come_otherwise(self):
        run = run_lines("fun g", "give 1", "fun f", "call a g", "give a", "main", "if 1", "call a f", "else", "end")
        self.assertEqual(lines_of(run, (6,)), [1, 3, 4, 6, 7])


class WholeTest(PartCase):
    def test_parts_at_the_end_of_a_run_that_ended(self):
        run = run_lines("main", "while less i 1", "if 1", "set i 1", "else", "end", "end")
        for address in ((1, 0), (1, 0, 2), (1, 1)):
            self.assertIs(is_whole(run, address), True)

    def test_a_part_that_ends_where_the_run_tired(self):
        lines = ("main", "if 1", "skip", "else", "end", "skip")
        self.assertIs(is_whole(run_lines(*lines, bound=1), (1,)), False)
        # Nothing lacks here, but no moment follows and the run has not ended.
        self.assertIs(is_whole(run_lines(*lines, bound=2), (1,)), False)
        self.assertIs(is_whole(run_lines(*lines, bound=3), (1,)), True)

    def test_looks_of_a_run_that_tired(self):
        run = run_lines("main", "if 1", "else", "end", "while 1", "if 1", "else", "end", "end", bound=8)
        self.assertEqual(run.end(), ("tired",))
        self.assertIs(is_whole(run, (1,)), True)
        for address in ((4, 0), (4, 1), (4, 3)):
            self.assertIs(is_whole(run, address), False)
        self.assertIs(is_whole(run, (4, 0, 5)), True)
        self.assertIs(is_whole(run, (4, 2, 5)), True)
        self.assertEqual(part_of(run, (4, 1)), (3, 8))

    def test_a_part_that_ends_where_the_run_fell(self):
        run = run_lines("main", "if 1", "else", "end", "if 1", "if 1", "else", "end", "tell over 1 0", "else", "end",
                        "skip")
        self.assertIs(is_whole(run, (1,)), True)
        self.assertIs(is_whole(run, (4, 0, 5)), True)
        self.assertIs(is_whole(run, (4,)), False)
        self.assertEqual(part_of(run, (4,)), (1, 4))

    def test_a_choice_a_look_and_a_call_that_fell(self):
        self.assert_part(run_lines("main", "skip", "if over a b", "skip", "else", "end"),
                         (2,), (1, 2), [(A, 0), (B, 0)], {}, [2], False)
        self.assert_part(run_lines("main", "while rest 1 a", "end"), (1, 0), (0, 1), [(A, 0)], {}, [1], False)
        self.assert_part(run_lines("fun f a", "give a", "main", "call b f over c 0"),
                         (3,), (0, 1), [(C, 0)], {}, [3], False)

    def test_calls_that_are_too_deep(self):
        run = run_lines("fun f", "call a f", "give a", "main", "call a f")
        for many in range(7):
            address = (4,) + (0, 1) * many
            lines = [1] if many else [1, 4]
            self.assert_part(run, address, (many, 7), [], {}, lines, False)


class OwnTest(PartCase):
    def test_told_things_are_the_asker_s_own(self):
        run = run_lines("main", "if a", "set b a", "else", "end", start={A: 1})
        before = run.moments()
        outside(run, (1,)).append("more")
        made_by(run, (1,)).clear()
        lines_of(run, (1,)).append(9)
        self.assert_part(run, (1,), (0, 2), [(A, 1)], {B: 1}, [1, 2], True)
        self.assertEqual(run.moments(), before)

    def test_refusals_change_nothing(self):
        run = run_lines("main", "if a", "set b a", "else", "end", start={A: 1})
        before = (run.moments(), run.end(), run.behind(2))
        self.assert_refused(NoMoment, run, ())
        self.assert_refused(NoPart, run, (1, 0, 2))
        self.assertEqual((run.moments(), run.end(), run.behind(2)), before)


if __name__ == "__main__":
    unittest.main()
