"""Runs: moments, addresses, ends, and what is told of them [1.5, 3.1 to 3.6, 4.2, 0.3]."""

import itertools
import unittest

from hadbeen import errors
from hadbeen.errors import NoMoment
from hadbeen.programs import read_program
from hadbeen.runs import Run, run_of
from hadbeen.settings import Setting


def box(name, frame=()):
    return ("box", frame, name)


A, B, C, D, I, N = box("a"), box("b"), box("c"), box("d"), box("i"), box("n")


def setting_of(*lines, start=None, bound=400, forced=None):
    return Setting(read_program("\n".join(lines)), start or {}, bound, forced)


def simple(address, reads=(), makes=(), said=None):
    return (address, list(reads), list(makes), said, None, None, None)


def look(address, reads, looked, goes=None):
    return (address, list(reads), [], None, looked, looked if goes is None else goes, None)


def fell(address, reads, why="nought"):
    return (address, list(reads), [], None, None, None, why)


class RunCase(unittest.TestCase):
    def assert_run(self, setting, moments, end):
        run = run_of(setting)
        self.assertIsInstance(run, Run)
        self.assertEqual(run.moments(), moments)
        self.assertEqual(run.end(), end)
        self.assertEqual(run.addresses(), [moment[0] for moment in moments])
        self.assertEqual(run.addresses(), sorted(run.addresses()))
        self.assertEqual(len(set(run.addresses())), len(moments))
        self.assertEqual(run.tells(), [moment[3] for moment in moments if moment[3] is not None])
        for moment in moments:
            self.assert_kinds(run.moment(moment[0]))
            self.assertEqual(run.moment(moment[0]), moment)
        held = setting.start()
        for many in range(len(moments) + 1):
            if many:
                held.update(moments[many - 1][2])
            self.assertEqual(run.behind(many), held)
        return run

    def assert_kinds(self, moment):
        self.assertIs(type(moment), tuple)
        self.assertEqual(len(moment), 7)
        self.assertEqual([type(moment[k]) for k in (0, 1, 2)], [tuple, list, list])
        for pair in moment[1] + moment[2]:
            self.assertIs(type(pair), tuple)
            self.assertEqual([type(part) for part in pair], [tuple, int])
        for truth in moment[4:6]:
            self.assertIn(type(truth), (bool, type(None)))
        for number in moment[0]:
            self.assertIs(type(number), int)

    def assert_no_moment(self, asked, *given):
        with self.assertRaises(errors.HadError) as caught:
            asked(*given)
        self.assertIs(type(caught.exception), NoMoment)


class SimpleRowsTest(RunCase):
    def test_rows_of_every_simple_kind(self):
        sky, die = ("world", "sky", 21), ("world", "die", 0)
        setting = setting_of(
            "main", "skip", "set a plus b 2", "put a times a 3", "ask c sky cell a", "draw d die", "tell minus c d",
            start={B: 5, sky: 9, die: 4})
        self.assert_run(setting, [
            simple((1,)),
            simple((2,), [(B, 5)], [(A, 7)]),
            simple((3,), [(A, 7)], [(("cell", 7), 21)]),
            simple((4,), [(A, 7), (("cell", 7), 21), (sky, 9)], [(C, 9)]),
            simple((5,), [(("drawn", "die"), 0), (die, 4)], [(D, 4), (("drawn", "die"), 1)]),
            simple((6,), [(C, 9), (D, 4)], [], 5),
        ], ("ended",))

    def test_places_that_nobody_gave_or_made_hold_0(self):
        setting = setting_of("main", "set a plus b cell c", "ask a w 3", "draw a w", "tell cell 999999")
        self.assert_run(setting, [
            simple((1,), [(B, 0), (C, 0), (("cell", 0), 0)], [(A, 0)]),
            simple((2,), [(("world", "w", 3), 0)], [(A, 0)]),
            simple((3,), [(("drawn", "w"), 0), (("world", "w", 0), 0)], [(A, 0), (("drawn", "w"), 1)]),
            simple((4,), [(("cell", 999999), 0)], [], 0),
        ], ("ended",))

    def test_values_come_round(self):
        setting = setting_of("main", "set a minus 0 1", "put a plus a 2", "tell times a a", start={})
        self.assert_run(setting, [
            simple((1,), [], [(A, 999999)]),
            simple((2,), [(A, 999999)], [(("cell", 999999), 1)]),
            simple((3,), [(A, 999999)], [], 1),
        ], ("ended",))

    def test_reads_stand_in_the_order_of_the_first_look_each_place_once(self):
        setting = setting_of("main", "tell plus plus b a plus cell b plus a b", start={A: 1, B: 2, ("cell", 2): 30})
        self.assert_run(setting, [simple((1,), [(B, 2), (A, 1), (("cell", 2), 30)], [], 36)], ("ended",))

    def test_a_cell_s_expression_is_looked_at_ahead_of_the_cell(self):
        setting = setting_of("main", "tell cell cell a", start={A: 4, ("cell", 4): 6, ("cell", 6): 8})
        self.assert_run(
            setting, [simple((1,), [(A, 4), (("cell", 4), 6), (("cell", 6), 8)], [], 8)], ("ended",))

    def test_both_sides_are_reckoned_whatever_the_left_one_is(self):
        setting = setting_of("main", "tell times 0 a", "tell less b a", "tell same a b", start={A: 3})
        self.assert_run(setting, [
            simple((1,), [(A, 3)], [], 0),
            simple((2,), [(B, 0), (A, 3)], [], 1),
            simple((3,), [(A, 3), (B, 0)], [], 0),
        ], ("ended",))

    def test_a_place_that_a_moment_reads_and_makes(self):
        setting = setting_of(
            "main", "set a plus a 1", "put 3 times cell 3 2", "ask b w b", "put cell 0 5",
            start={A: 7, ("cell", 3): 4, B: 2, ("world", "w", 2): 6})
        self.assert_run(setting, [
            simple((1,), [(A, 7)], [(A, 8)]),
            simple((2,), [(("cell", 3), 4)], [(("cell", 3), 8)]),
            simple((3,), [(B, 2), (("world", "w", 2), 6)], [(B, 6)]),
            simple((4,), [(("cell", 0), 0)], [(("cell", 0), 5)]),
        ], ("ended",))

    def test_put_reckons_the_cell_s_number_first(self):
        setting = setting_of("main", "put b a", start={A: 1, B: 2})
        self.assert_run(setting, [simple((1,), [(B, 2), (A, 1)], [(("cell", 2), 1)])], ("ended",))

    def test_a_word_drawn_several_times(self):
        world = {("world", "w", 0): 7, ("world", "w", 1): 8, ("world", "v", 0): 9}
        w, v = ("drawn", "w"), ("drawn", "v")
        setting = setting_of("main", "draw a w", "draw a w", "draw b v", "draw a w", start=world)
        run = self.assert_run(setting, [
            simple((1,), [(w, 0), (("world", "w", 0), 7)], [(A, 7), (w, 1)]),
            simple((2,), [(w, 1), (("world", "w", 1), 8)], [(A, 8), (w, 2)]),
            simple((3,), [(v, 0), (("world", "v", 0), 9)], [(B, 9), (v, 1)]),
            simple((4,), [(w, 2), (("world", "w", 2), 0)], [(A, 0), (w, 3)]),
        ], ("ended",))
        self.assertEqual(run.behind(4), {**world, A: 0, B: 9, w: 3, v: 1})

    def test_an_ask_leaves_the_drawn_count_as_it_is(self):
        setting = setting_of("main", "ask a w 1", "draw a w", start={("world", "w", 1): 5})
        self.assert_run(setting, [
            simple((1,), [(("world", "w", 1), 5)], [(A, 5)]),
            simple((2,), [(("drawn", "w"), 0), (("world", "w", 0), 0)], [(A, 0), (("drawn", "w"), 1)]),
        ], ("ended",))

    def test_a_box_a_word_and_a_function_of_one_name(self):
        setting = setting_of("fun a a", "give plus a 1", "main", "ask a a a", "call a a a",
                             start={A: 2, ("world", "a", 2): 40})
        inner = box("a", (4,))
        self.assert_run(setting, [
            simple((3,), [(A, 2), (("world", "a", 2), 40)], [(A, 40)]),
            simple((4,), [(A, 40)], [(inner, 40)]),
            simple((4, 0, 1), [(inner, 40)], [(A, 41)]),
        ], ("ended",))

    def test_said_0_is_told(self):
        self.assertEqual(run_of(setting_of("main", "tell 0", "tell 3", "tell 0")).tells(), [0, 3, 0])

    def test_main_without_rows(self):
        run = self.assert_run(setting_of("main", start={A: 1}, bound=1), [], ("ended",))
        self.assertEqual(run.behind(0), {A: 1})
        self.assert_run(setting_of("fun f", "give 1", "main"), [], ("ended",))


class ChoicesTest(RunCase):
    TEXT = ("main", "if a", "tell 1", "set b 2", "else", "tell 3", "end", "tell b")

    def test_a_choice_that_goes(self):
        for value in (1, 2, 999999):
            self.assert_run(setting_of(*self.TEXT, start={A: value}), [
                look((1,), [(A, value)], True),
                simple((1, 0, 2), said=1),
                simple((1, 0, 3), makes=[(B, 2)]),
                simple((7,), [(B, 2)], said=2),
            ], ("ended",))

    def test_a_choice_that_does_not_go(self):
        self.assert_run(setting_of(*self.TEXT), [
            look((1,), [(A, 0)], False), simple((1, 1, 5), said=3), simple((7,), [(B, 0)], said=0),
        ], ("ended",))

    def test_a_choice_is_forced(self):
        self.assert_run(setting_of(*self.TEXT, forced={(1,): True}), [
            look((1,), [(A, 0)], False, True),
            simple((1, 0, 2), said=1),
            simple((1, 0, 3), makes=[(B, 2)]),
            simple((7,), [(B, 2)], said=2),
        ], ("ended",))
        self.assert_run(setting_of(*self.TEXT, start={A: 5}, forced={(1,): False}), [
            look((1,), [(A, 5)], True, False), simple((1, 1, 5), said=3), simple((7,), [(B, 0)], said=0),
        ], ("ended",))

    def test_a_choice_is_forced_as_it_looks(self):
        self.assert_run(setting_of(*self.TEXT, forced={(1,): False}), [
            look((1,), [(A, 0)], False, False), simple((1, 1, 5), said=3), simple((7,), [(B, 0)], said=0),
        ], ("ended",))

    def test_forced_addresses_to_which_no_moment_comes_or_that_do_not_look(self):
        forced = {(): True, (0,): True, (2,): False, (1, 0): True, (1, 0, 2): False, (1, 1, 5): True, (7,): False,
                  (1, 0, 2, 0): True, (4,): True, (99,): True, (10 ** 39,): False}
        self.assertEqual(run_of(setting_of(*self.TEXT, forced=forced)).moments(),
                         run_of(setting_of(*self.TEXT)).moments())

    def test_choices_without_rows(self):
        for value in (0, 1):
            self.assert_run(setting_of("main", "if a", "else", "end", start={A: value}),
                            [look((1,), [(A, value)], value == 1)], ("ended",))
            self.assert_run(setting_of("main", "if a", "else", "end", "skip", start={A: value}),
                            [look((1,), [(A, value)], value == 1), simple((4,))], ("ended",))

    def test_choices_within_one_another(self):
        lines = ("main", "if a", "if b", "else", "tell 1", "end", "else", "if b", "tell 2", "else", "end", "end",
                 "tell 3")
        self.assert_run(setting_of(*lines, start={A: 1}), [
            look((1,), [(A, 1)], True), look((1, 0, 2), [(B, 0)], False), simple((1, 0, 2, 1, 4), said=1),
            simple((12,), said=3),
        ], ("ended",))
        self.assert_run(setting_of(*lines, start={A: 1, B: 1}), [
            look((1,), [(A, 1)], True), look((1, 0, 2), [(B, 1)], True), simple((12,), said=3),
        ], ("ended",))
        self.assert_run(setting_of(*lines, start={B: 1}), [
            look((1,), [(A, 0)], False), look((1, 1, 7), [(B, 1)], True), simple((1, 1, 7, 0, 8), said=2),
            simple((12,), said=3),
        ], ("ended",))
        self.assert_run(setting_of(*lines), [
            look((1,), [(A, 0)], False), look((1, 1, 7), [(B, 0)], False), simple((12,), said=3),
        ], ("ended",))

    def test_five_choices_within_one_another(self):
        lines = ["main"] + ["if 1"] * 5 + ["tell 9"] + ["else", "end"] * 5
        moments = [look((1, 0, 2, 0, 3, 0, 4, 0, 5)[:2 * k + 1], [], True) for k in range(5)]
        moments.append(simple((1, 0, 2, 0, 3, 0, 4, 0, 5, 0, 6), said=9))
        self.assert_run(setting_of(*lines), moments, ("ended",))


class LoopsTest(RunCase):
    TEXT = ("main", "while less i n", "tell i", "set i plus i 1", "end", "tell 9")

    def test_a_loop_of_no_look_that_goes(self):
        self.assert_run(setting_of(*self.TEXT), [
            look((1, 0), [(I, 0), (N, 0)], False), simple((5,), said=9)], ("ended",))

    def test_a_loop_of_several_looks(self):
        moments = []
        for k in range(3):
            moments += [look((1, k), [(I, k), (N, 3)], True), simple((1, k, 2), [(I, k)], said=k),
                        simple((1, k, 3), [(I, k)], [(I, k + 1)])]
        moments += [look((1, 3), [(I, 3), (N, 3)], False), simple((5,), said=9)]
        self.assert_run(setting_of(*self.TEXT, start={N: 3}), moments, ("ended",))

    def test_looks_are_forced(self):
        self.assert_run(setting_of(*self.TEXT, start={N: 5}, forced={(1, 1): False, (1,): True, (1, 2): True}), [
            look((1, 0), [(I, 0), (N, 5)], True), simple((1, 0, 2), [(I, 0)], said=0),
            simple((1, 0, 3), [(I, 0)], [(I, 1)]),
            look((1, 1), [(I, 1), (N, 5)], True, False), simple((5,), said=9)], ("ended",))
        self.assert_run(setting_of(*self.TEXT, forced={(1, 0): True}), [
            look((1, 0), [(I, 0), (N, 0)], False, True), simple((1, 0, 2), [(I, 0)], said=0),
            simple((1, 0, 3), [(I, 0)], [(I, 1)]),
            look((1, 1), [(I, 1), (N, 0)], False), simple((5,), said=9)], ("ended",))

    def test_a_loop_without_rows(self):
        self.assert_run(setting_of("main", "while a", "end"), [look((1, 0), [(A, 0)], False)], ("ended",))
        self.assert_run(setting_of("main", "while a", "end", "skip", forced={(1, 0): True, (1, 1): True}), [
            look((1, 0), [(A, 0)], False, True), look((1, 1), [(A, 0)], False, True),
            look((1, 2), [(A, 0)], False), simple((3,))], ("ended",))
        self.assert_run(setting_of("main", "while 1", "end", bound=3),
                        [look((1, k), [], True) for k in range(3)], ("tired",))

    def test_loops_and_choices_within_one_another(self):
        setting = setting_of(
            "main", "while less i 2", "if i", "while less a 1", "set a 1", "end", "else", "skip", "end",
            "set i plus i 1", "end")
        self.assert_run(setting, [
            look((1, 0), [(I, 0)], True), look((1, 0, 2), [(I, 0)], False), simple((1, 0, 2, 1, 7)),
            simple((1, 0, 9), [(I, 0)], [(I, 1)]),
            look((1, 1), [(I, 1)], True), look((1, 1, 2), [(I, 1)], True),
            look((1, 1, 2, 0, 3, 0), [(A, 0)], True), simple((1, 1, 2, 0, 3, 0, 4), [], [(A, 1)]),
            look((1, 1, 2, 0, 3, 1), [(A, 1)], False),
            simple((1, 1, 9), [(I, 1)], [(I, 2)]),
            look((1, 2), [(I, 2)], False),
        ], ("ended",))

    def test_a_loop_first_in_each_block(self):
        setting = setting_of(
            "fun f", "while 0", "end", "give 1", "main", "while less i 1", "while 0", "end", "set i 1", "end",
            "if 1", "while 0", "end", "else", "end", "call a f", "while 0", "end")
        self.assertEqual(run_of(setting).addresses(), [
            (5, 0), (5, 0, 6, 0), (5, 0, 8), (5, 1), (10,), (10, 0, 11, 0), (15,), (15, 0, 1, 0), (15, 0, 3), (16, 0)])

    def test_looks_of_two_figures_rise(self):
        run = run_of(setting_of(*self.TEXT, start={N: 12}))
        self.assertEqual([address for address in run.addresses() if len(address) == 2], [(1, k) for k in range(13)])


class CallsTest(RunCase):
    def test_calls_with_none_to_three_parameters(self):
        setting = setting_of(
            "fun f", "give 7", "fun g a", "give a", "fun h c b", "give minus c b", "fun k a b c",
            "give plus a times b c", "main", "call a f", "call b g plus a 1", "call c h b a", "call a k a b c")
        at = (12,)
        self.assert_run(setting, [
            simple((9,)),
            simple((9, 0, 1), [], [(A, 7)]),
            simple((10,), [(A, 7)], [(box("a", (10,)), 8)]),
            simple((10, 0, 3), [(box("a", (10,)), 8)], [(B, 8)]),
            simple((11,), [(B, 8), (A, 7)], [(box("c", (11,)), 8), (box("b", (11,)), 7)]),
            simple((11, 0, 5), [(box("c", (11,)), 8), (box("b", (11,)), 7)], [(C, 1)]),
            simple(at, [(A, 7), (B, 8), (C, 1)], [(box("a", at), 7), (box("b", at), 8), (box("c", at), 1)]),
            simple((12, 0, 7), [(box("a", at), 7), (box("b", at), 8), (box("c", at), 1)], [(A, 15)]),
        ], ("ended",))

    def test_boxes_in_a_function_are_those_of_the_call(self):
        setting = setting_of(
            "fun f a", "set b plus b a", "put 1 b", "tell cell 0", "give c", "main", "set b 50", "set c 60",
            "call a f 1", "call a f 2", "tell b", start={("cell", 0): 3})
        one, two = (8,), (9,)
        self.assert_run(setting, [
            simple((6,), [], [(B, 50)]),
            simple((7,), [], [(C, 60)]),
            simple((8,), [], [(box("a", one), 1)]),
            simple((8, 0, 1), [(box("b", one), 0), (box("a", one), 1)], [(box("b", one), 1)]),
            simple((8, 0, 2), [(box("b", one), 1)], [(("cell", 1), 1)]),
            simple((8, 0, 3), [(("cell", 0), 3)], [], 3),
            simple((8, 0, 4), [(box("c", one), 0)], [(A, 0)]),
            simple((9,), [], [(box("a", two), 2)]),
            simple((9, 0, 1), [(box("b", two), 0), (box("a", two), 2)], [(box("b", two), 2)]),
            simple((9, 0, 2), [(box("b", two), 2)], [(("cell", 1), 2)]),
            simple((9, 0, 3), [(("cell", 0), 3)], [], 3),
            simple((9, 0, 4), [(box("c", two), 0)], [(A, 0)]),
            simple((10,), [(B, 50)], [], 50),
        ], ("ended",))

    def test_every_row_in_a_function_uses_the_call_s_boxes(self):
        setting = setting_of(
            "fun f", "set a 2", "ask b w a", "draw c w", "if b", "tell c", "else", "end", "while c", "end", "put a b",
            "give a", "main", "call d f",
            start={("world", "w", 2): 5, A: 90, B: 91, C: 92})
        at = (13,)
        a, b, c = box("a", at), box("b", at), box("c", at)
        self.assert_run(setting, [
            simple((13,)),
            simple((13, 0, 1), [], [(a, 2)]),
            simple((13, 0, 2), [(a, 2), (("world", "w", 2), 5)], [(b, 5)]),
            simple((13, 0, 3), [(("drawn", "w"), 0), (("world", "w", 0), 0)], [(c, 0), (("drawn", "w"), 1)]),
            look((13, 0, 4), [(b, 5)], True),
            simple((13, 0, 4, 0, 5), [(c, 0)], [], 0),
            look((13, 0, 8, 0), [(c, 0)], False),
            simple((13, 0, 10), [(a, 2), (b, 5)], [(("cell", 2), 5)]),
            simple((13, 0, 11), [(a, 2)], [(D, 2)]),
        ], ("ended",))

    def test_calls_within_calls_and_blocks(self):
        setting = setting_of(
            "fun g a", "give times a a", "fun f a", "if a", "call b g a", "else", "end", "give b",
            "main", "while less i 1", "call i f 1", "end")
        at, inner = (9, 0, 10), (9, 0, 10, 0, 3, 0, 4)
        self.assert_run(setting, [
            look((9, 0), [(I, 0)], True),
            simple(at, [], [(box("a", at), 1)]),
            look(at + (0, 3), [(box("a", at), 1)], True),
            simple(inner, [(box("a", at), 1)], [(box("a", inner), 1)]),
            simple(inner + (0, 1), [(box("a", inner), 1)], [(box("b", at), 1)]),
            simple(at + (0, 7), [(box("b", at), 1)], [(I, 1)]),
            look((9, 1), [(I, 1)], False),
        ], ("ended",))

    def test_a_function_may_stand_behind_the_one_that_calls_it(self):
        setting = setting_of("fun f", "call a g", "give a", "fun g", "give 4", "main", "call a f")
        self.assert_run(setting, [
            simple((6,)), simple((6, 0, 1)), simple((6, 0, 1, 0, 4), [], [(box("a", (6,)), 4)]),
            simple((6, 0, 2), [(box("a", (6,)), 4)], [(A, 4)])], ("ended",))

    def test_a_function_that_calls_itself(self):
        setting = setting_of("fun f a", "if a", "call b f minus a 1", "else", "end", "give plus b a", "main",
                             "call a f 2")
        one, two, three = (7,), (7, 0, 1, 0, 2), (7, 0, 1, 0, 2, 0, 1, 0, 2)
        self.assert_run(setting, [
            simple(one, [], [(box("a", one), 2)]),
            look(one + (0, 1), [(box("a", one), 2)], True),
            simple(two, [(box("a", one), 2)], [(box("a", two), 1)]),
            look(two + (0, 1), [(box("a", two), 1)], True),
            simple(three, [(box("a", two), 1)], [(box("a", three), 0)]),
            look(three + (0, 1), [(box("a", three), 0)], False),
            simple(three + (0, 5), [(box("b", three), 0), (box("a", three), 0)], [(box("b", two), 0)]),
            simple(two + (0, 5), [(box("b", two), 0), (box("a", two), 1)], [(box("b", one), 1)]),
            simple(one + (0, 5), [(box("b", one), 1), (box("a", one), 2)], [(A, 3)]),
        ], ("ended",))

    def test_a_choice_in_a_function_is_forced_by_its_address(self):
        setting = setting_of("fun f", "if a", "tell 1", "else", "end", "give 0", "main", "call a f", "call a f",
                             forced={(8, 0, 1): True})
        self.assert_run(setting, [
            simple((7,)), look((7, 0, 1), [(box("a", (7,)), 0)], False), simple((7, 0, 5), [], [(A, 0)]),
            simple((8,)), look((8, 0, 1), [(box("a", (8,)), 0)], False, True), simple((8, 0, 1, 0, 2), said=1),
            simple((8, 0, 5), [], [(A, 0)])], ("ended",))

    def test_a_call_within_six_calls_is_too_deep(self):
        setting = setting_of("fun f a", "call b f plus a 1", "give b", "main", "call a f 5")
        moments, frame, address = [], (), (4,)
        for k in range(6):
            reads = [(box("a", frame), 4 + k)] if k else []
            moments.append(simple(address, reads, [(box("a", address), 5 + k)]))
            frame, address = address, address + (0, 1)
        self.assertEqual(len(address), 13)
        moments.append(fell(address, [(box("a", frame), 10)], "deep"))
        self.assert_run(setting, moments, ("fell", "deep", address))

    def test_a_call_within_five_calls_is_done(self):
        setting = setting_of("fun f a", "if less a 5", "call b f plus a 1", "else", "end", "give plus b 1",
                             "main", "call a f 0")
        run = run_of(setting)
        self.assertEqual(run.end(), ("ended",))
        self.assertEqual(run.behind(len(run.moments()))[A], 6)
        self.assertEqual(max(len(address) for address in run.addresses()), 1 + 5 * 4 + 2)
        other = run_of(setting.changed(("row", 1, "if less a 6")))
        deep = (7,) + (0, 1, 0, 2) * 6
        self.assertEqual(other.end(), ("fell", "deep", deep))
        self.assertEqual(other.moments()[-1], fell(deep, [(box("a", deep[:-4]), 5)], "deep"))

    def test_too_deep_comes_behind_the_expressions(self):
        address = (4,) + (0, 1) * 6
        reads = [(box("a", address[:-2]), 6)]
        lines = ["fun f a", "call b f plus a 1", "give b", "main", "call a f 1"]
        run = run_of(setting_of(*lines))
        self.assertEqual(run.moments()[-1], fell(address, reads, "deep"))
        lines[1] = "call b f plus plus a 1 times 0 over 1 minus 6 a"
        run = run_of(setting_of(*lines))
        self.assertEqual(run.moments()[-1], fell(address, reads, "nought"))
        self.assertEqual(run.end(), ("fell", "nought", address))

    def test_choices_and_loops_round_a_call_do_not_count(self):
        lines = ["fun f a"] + ["if 1"] * 4 + ["while less a 6", "call b f plus a 1", "set a 6", "end"]
        lines += ["else", "end"] * 4 + ["give 1", "main", "call c f 1"]
        run = run_of(setting_of(*lines))
        self.assertEqual(run.end(), ("ended",))
        self.assertEqual([address[-1] for address in run.addresses()].count(6), 5)


class FallsTest(RunCase):
    def assert_falls(self, lines, address, reads, start=None, why="nought"):
        with self.subTest(lines=lines):
            run = run_of(setting_of(*lines, start=start))
            self.assertEqual(run.end(), ("fell", why, address))
            self.assertEqual(run.moments()[-1], fell(address, reads, why))
            self.assertEqual(run.addresses()[-1], address)
            self.assertEqual(run.moment(address), fell(address, reads, why))

    def test_over_and_rest_by_0_in_each_kind_of_row(self):
        for word in ("over", "rest"):
            e = f"{word} a b"
            reads = [(A, 5), (B, 0)]
            start = {A: 5}
            for row in (f"set c {e}", f"put {e} d", f"ask c w {e}", f"tell {e}"):
                self.assert_falls(("main", row, "skip"), (1,), reads, start)
            self.assert_falls(("main", f"put d {e}"), (1,), [(D, 0)] + reads, start)
            self.assert_falls(("main", f"if {e}", "skip", "else", "skip", "end", "skip"), (1,), reads, start)
            self.assert_falls(("main", f"while {e}", "skip", "end", "skip"), (1, 0), reads, start)
            self.assert_falls(("fun f c", "give c", "main", f"call d f {e}"), (3,), reads, start)
            self.assert_falls(("fun f c e", "give c", "main", f"call d f {e} d"), (3,), reads, start)
            self.assert_falls(("fun f c e", "give c", "main", f"call d f d {e}"), (3,), [(D, 0)] + reads, start)
            inner = [(box("a", (3,)), 5), (box("b", (3,)), 0)]
            self.assert_falls(("fun f a", f"give {e}", "main", "call d f 5"), (3, 0, 1), inner)

    def test_nothing_that_stands_behind_is_looked_at(self):
        start = {A: 1}
        self.assert_falls(("main", "tell plus over a b c"), (1,), [(A, 1), (B, 0)], start)
        self.assert_falls(("main", "tell cell over a b"), (1,), [(A, 1), (B, 0)], start)
        self.assert_falls(("main", "tell times cell rest a 0 c"), (1,), [(A, 1)], start)
        self.assert_falls(("main", "tell less c over a b"), (1,), [(C, 0), (A, 1), (B, 0)], start)
        self.assert_falls(("main", "tell over 0 0"), (1,), [])
        self.assert_falls(("main", "ask c w over 1 0"), (1,), [])

    def test_the_first_of_two_falls_counts(self):
        self.assert_falls(("main", "put over a 0 over b 0"), (1,), [(A, 0)])

    def test_a_later_look_falls(self):
        run = run_of(setting_of("main", "while over 2 minus 2 i", "set i plus i 1", "end"))
        self.assertEqual(run.addresses(), [(1, 0), (1, 0, 2), (1, 1), (1, 1, 2), (1, 2)])
        self.assertEqual(run.end(), ("fell", "nought", (1, 2)))
        self.assertEqual(run.moments()[-1], fell((1, 2), [(I, 2)]))

    def test_a_fallen_choice_or_look_is_not_forced(self):
        for truth in (True, False):
            run = run_of(setting_of("main", "if over 1 a", "skip", "else", "skip", "end", forced={(1,): truth}))
            self.assertEqual(run.moments(), [fell((1,), [(A, 0)])])
            run = run_of(setting_of("main", "while over 1 a", "end", forced={(1, 0): truth}))
            self.assertEqual(run.moments(), [fell((1, 0), [(A, 0)])])

    def test_a_fallen_moment_makes_and_says_nothing(self):
        run = run_of(setting_of("main", "tell 4", "set a 3", "put 1 over a 0", "tell a", start={B: 2}))
        self.assertEqual(run.tells(), [4])
        self.assertEqual(run.behind(3), {A: 3, B: 2})
        self.assertEqual(len(run.moments()), 3)

    def test_over_and_rest_by_others(self):
        self.assertEqual(run_of(setting_of("main", "tell over 7 2", "tell rest 7 2", "tell over 0 5")).tells(),
                         [3, 1, 0])


class EndsTest(RunCase):
    def test_a_bound_of_1(self):
        self.assert_run(setting_of("main", "skip", bound=1), [simple((1,))], ("ended",))
        self.assert_run(setting_of("main", "skip", "skip", bound=1), [simple((1,))], ("tired",))
        self.assert_run(setting_of("main", "if 1", "else", "skip", "end", bound=1), [look((1,), [], True)],
                        ("ended",))
        self.assert_run(setting_of("main", "if 0", "else", "skip", "end", bound=1), [look((1,), [], False)],
                        ("tired",))
        self.assert_run(setting_of("main", "while 0", "end", bound=1), [look((1, 0), [], False)], ("ended",))
        self.assert_run(setting_of("main", "while 1", "end", bound=1), [look((1, 0), [], True)], ("tired",))
        self.assert_run(setting_of("fun f", "give 1", "main", "call a f", bound=1), [simple((3,))], ("tired",))
        self.assert_run(setting_of("main", "tell over 1 0", "skip", bound=1), [fell((1,), [])],
                        ("fell", "nought", (1,)))

    def test_the_bound_just_reached_and_one_too_few(self):
        lines = ("fun f", "give 1", "main", "call a f", "while less i 1", "set i 1", "end", "if i", "else", "end")
        whole = run_of(setting_of(*lines))
        many = len(whole.moments())
        self.assertEqual(many, 6)
        self.assertEqual(whole.end(), ("ended",))
        self.assert_run(setting_of(*lines, bound=many), whole.moments(), ("ended",))
        self.assert_run(setting_of(*lines, bound=many + 1), whole.moments(), ("ended",))
        for bound in range(1, many):
            self.assert_run(setting_of(*lines, bound=bound), whole.moments()[:bound], ("tired",))

    def test_a_fall_at_the_bound_and_behind_it(self):
        lines = ("main", "skip", "tell over 1 0")
        self.assertEqual(run_of(setting_of(*lines, bound=2)).end(), ("fell", "nought", (2,)))
        self.assertEqual(run_of(setting_of(*lines, bound=1)).end(), ("tired",))

    def test_a_bound_of_400(self):
        run = run_of(setting_of("main", "while 1", "end"))
        self.assertEqual(len(run.moments()), 400)
        self.assertEqual(run.end(), ("tired",))
        self.assertEqual(run.addresses(), [(1, k) for k in range(400)])
        lines = ("main", "while less i 199", "set i plus i 1", "end", "tell i")
        self.assertEqual(len(run_of(setting_of(*lines)).moments()), 400)
        self.assertEqual(run_of(setting_of(*lines)).end(), ("ended",))

    def test_ends_are_tuples(self):
        for lines in (("main",), ("main", "tell over 1 0"), ("main", "while 1", "end")):
            self.assertIs(type(run_of(setting_of(*lines)).end()), tuple)


class ToldTest(RunCase):
    LINES = ("fun f a", "give plus a 1", "main", "set b 5", "while less i 2", "call i f i", "end", "put i b", "tell b",
             "draw c w")

    def setUp(self):
        self.setting = setting_of(*self.LINES, start={A: 4, B: 1, ("cell", 9): 0}, bound=50)
        self.run_told = run_of(self.setting)

    def test_the_places_behind_so_many_moments(self):
        start = {A: 4, B: 1, ("cell", 9): 0}
        one, two = box("a", (4, 0, 5)), box("a", (4, 1, 5))
        wanted = [start]
        for made in ({B: 5}, {}, {one: 0}, {I: 1}, {}, {two: 1}, {I: 2}, {}, {("cell", 2): 5}, {},
                     {C: 0, ("drawn", "w"): 1}):
            wanted.append({**wanted[-1], **made})
        self.assertEqual(len(self.run_told.moments()), 11)
        self.assertEqual([self.run_told.behind(many) for many in range(12)], wanted)

    def test_counts_below_0_and_beyond(self):
        for many in (-1, -2, -11, -12, 12, 13, 400, 10 ** 39, -10 ** 39):
            self.assert_no_moment(self.run_told.behind, many)
        self.assert_no_moment(run_of(setting_of("main")).behind, 1)
        self.assert_no_moment(run_of(setting_of("main")).behind, -1)

    def test_addresses_without_a_moment(self):
        for address in ((), (0,), (2,), (4,), (4, 3), (4, 0, 4), (4, 0, 5, 0), (4, 0, 5, 0, 0), (4, 0, 5, 1, 1),
                        (3, 0), (5,), (1,), (10,), (11,), (10 ** 39,), (4, 10 ** 39), (0,) * 100):
            self.assert_no_moment(self.run_told.moment, address)
        for address in ((), (0,), (1,)):
            self.assert_no_moment(run_of(setting_of("main")).moment, address)

    def test_the_field_setting(self):
        self.assertIsInstance(self.run_told.setting, Setting)
        self.assertTrue(self.run_told.setting.alike(self.setting))
        self.assertEqual(self.run_told.setting.start(), self.setting.start())
        self.assertEqual(self.run_told.setting.bound, 50)

    def test_what_was_handed_in_may_change(self):
        start, forced = {A: 1}, {(1,): True}
        setting = setting_of("main", "if 0", "tell a", "else", "end", start=start, forced=forced)
        run = run_of(setting)
        before = run.moments()
        start[A] = 2
        forced[(1,)] = False
        setting.bound = 1
        setting.program = read_program("main")
        self.assertEqual(run.moments(), before)
        self.assertEqual(run.setting.bound, 400)
        self.assertEqual(run.setting.program.text(), "main\nif 0\ntell a\nelse\nend")
        self.assertEqual(run.behind(2), {A: 1})

    def test_a_run_leaves_its_setting_as_it_was(self):
        self.assertEqual(self.setting.start(), {A: 4, B: 1, ("cell", 9): 0})
        self.assertEqual(self.setting.forced(), {})
        self.assertEqual(self.setting.program.text(), "\n".join(self.LINES))

    def test_told_things_are_the_asker_s_own(self):
        run = self.run_told
        moments, addresses, tells, held, one = (
            run.moments(), run.addresses(), run.tells(), run.behind(11), run.moment((3,)))
        for moment in run.moments() + [run.moment((3,)), run.moment((4, 0))]:
            moment[1].append("more")
            moment[2].clear()
            moment[2].append("more")
        run.moments().clear()
        run.addresses().append(())
        run.tells().append(1)
        for many in (0, 11):
            run.behind(many).clear()
            run.behind(many)[A] = 77
        run.setting.start()[A] = 66
        self.assertEqual(run.moments(), moments)
        self.assertEqual(run.addresses(), addresses)
        self.assertEqual(run.tells(), tells)
        self.assertEqual(run.behind(11), held)
        self.assertEqual(run.moment((3,)), one)
        self.assertEqual(run.behind(0), self.setting.start())

    def test_refusals_change_nothing(self):
        before = (self.run_told.moments(), self.run_told.behind(11), self.run_told.end())
        self.assert_no_moment(self.run_told.behind, 12)
        self.assert_no_moment(self.run_told.moment, ())
        self.assertEqual((self.run_told.moments(), self.run_told.behind(11), self.run_told.end()), before)

    def test_asked_again_the_same_is_told(self):
        other = run_of(self.setting)
        self.assertEqual(other.moments(), self.run_told.moments())
        self.assertEqual(other.end(), self.run_told.end())


class ChangesTest(RunCase):
    LINES = ("fun f a", "give plus a 1", "main", "if a", "call b f a", "else", "ask b w 2", "end", "while less i b",
             "set i plus i 2", "end", "tell i")

    def test_changes_of_unlike_keys_in_any_order_come_to_the_same_run(self):
        setting = setting_of(*self.LINES, start={A: 4}, bound=60)
        changes = [("start", A, 0), ("start", ("world", "w", 2), 3), ("row", 9, "set i plus i 1"),
                   ("goes", (3,), True), ("goes", (8, 1), None)]
        wanted = None
        for order in itertools.permutations(changes):
            changed = setting
            for change in order:
                changed = changed.changed(change)
            run = run_of(changed)
            told = (run.moments(), run.end(), run.tells(), run.behind(len(run.moments())))
            wanted = wanted or told
            self.assertEqual(told, wanted)
        self.assertEqual(wanted[1:3], (("ended",), [1]))

    def test_each_change_makes_its_run(self):
        setting = setting_of(*self.LINES, start={A: 4}, bound=60)
        self.assertEqual(run_of(setting).tells(), [6])
        self.assertEqual(run_of(setting.changed(("start", A, 7))).tells(), [8])
        self.assertEqual(run_of(setting.changed(("start", A, 0))).tells(), [0])
        self.assertEqual(run_of(setting.changed(("row", 11, "tell b"))).tells(), [5])
        self.assertEqual(run_of(setting.changed(("goes", (8, 1), False))).tells(), [2])
        self.assertEqual(run_of(setting).tells(), [6])


if __name__ == "__main__":
    unittest.main()
