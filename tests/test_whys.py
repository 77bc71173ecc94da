"""What is otherwise between two runs, the leads of an address, and why [8.1 to 8.5, 0.2, 0.3]."""

import unittest

from hadbeen import errors
from hadbeen.errors import NoMoment
from hadbeen.programs import read_program
from hadbeen.redo import had_been
from hadbeen.runs import run_of
from hadbeen.settings import Setting
from hadbeen.whys import leads, parted, why


def box(name, frame=()):
    return ("box", frame, name)


A, B, C, I = box("a"), box("b"), box("c"), box("i")
FELL = ("fell", "nought", (2,))


def run_lines(*lines, start=None, bound=400, forced=None):
    return run_of(Setting(read_program("\n".join(lines)), start or {}, bound, forced))


def with_changes(run, *changes):
    setting = run.setting
    for change in changes:
        setting = setting.changed(change)
    return had_been(run, setting)[0]


def next_cause(answer):
    """The address to which an answer of why leads, or None where it is the last cause."""
    if answer[0] in ("fresh", "gone"):
        return answer[1]
    if answer[0] == "read":
        makers = [maker for maker in answer[4:] if maker is not None]
        return max(makers) if makers else None
    if answer[0] == "ended" and answer[1][0] == "fell":
        return answer[1][2]
    return None


class WhyCase(unittest.TestCase):
    def assert_why(self, one, other, address, answer):
        with self.subTest(address=address):
            self.assertEqual(why(one, other, address), answer)
            self.assertIs(type(why(one, other, address)), tuple)

    def assert_causes_lead_back(self, one, other):
        gone, fresh, otherwise, alike = parted(one, other)
        for address in gone + fresh + otherwise:
            answer, now = why(one, other, address), address
            while next_cause(answer) is not None:
                self.assertLess(next_cause(answer), now)
                now = next_cause(answer)
                self.assertNotIn(now, alike)
                answer = why(one, other, now)
            self.assert_last(one, other, answer)
        for address in alike:
            self.assertEqual(why(one, other, address), ("alike",))

    def assert_last(self, one, other, answer):
        settings = (one.setting, other.setting)
        if answer[0] == "row":
            lines = [setting.program.lines()[answer[1]] for setting in settings]
            self.assertNotEqual(*lines)
        elif answer[0] == "read":
            self.assertEqual([setting.holds(answer[1]) for setting in settings], list(answer[2:4]))
            self.assertNotEqual(answer[2], answer[3])
        elif answer[0] == "goes":
            self.assertNotEqual(settings[0].forced(), settings[1].forced())
        else:
            self.assertEqual(answer, ("ended", ("tired",)))

    def assert_no_moment(self, asked, *given):
        with self.assertRaises(errors.HadError) as caught:
            asked(*given)
        self.assertIs(type(caught.exception), NoMoment)


class PartedTest(WhyCase):
    LINES = ("main", "set a 1", "if b", "tell a", "else", "tell 7", "end", "tell b", "tell a")

    def test_two_runs(self):
        one = run_lines(*self.LINES)
        other = with_changes(one, ("start", B, 1))
        self.assertEqual(parted(one, other), ([(2, 1, 5)], [(2, 0, 3)], [(2,), (7,)], [(1,), (8,)]))

    def test_turned_about(self):
        one = run_lines(*self.LINES)
        other = with_changes(one, ("start", B, 1))
        self.assertEqual(parted(other, one), ([(2, 0, 3)], [(2, 1, 5)], [(2,), (7,)], [(1,), (8,)]))

    def test_one_and_itself(self):
        one = run_lines(*self.LINES)
        self.assertEqual(parted(one, one), ([], [], [], one.addresses()))
        self.assertEqual(parted(one, run_lines(*self.LINES, start={C: 0})), ([], [], [], one.addresses()))

    def test_runs_without_moments(self):
        one = run_lines("main")
        self.assertEqual(parted(one, one), ([], [], [], []))

    def test_lists_rise(self):
        one = run_lines("main", "while less i n", "set i plus i 1", "end", "tell i", start={box("n"): 11})
        other = with_changes(one, ("start", box("n"), 12), ("start", I, 0))
        told = parted(one, other)
        self.assertIs(type(told), tuple)
        self.assertEqual(told[0], [])
        self.assertEqual(told[1], [(1, 11, 2), (1, 12)])
        self.assertEqual(told[2], [(1, k) for k in range(12)] + [(4,)])
        self.assertEqual(told[3], [(1, k, 2) for k in range(11)])
        for addresses in told:
            self.assertIs(type(addresses), list)
            self.assertEqual(addresses, sorted(addresses))

    def test_moments_that_are_unlike_in_one_thing(self):
        one = run_lines("main", "if a", "else", "end", "set b 1", "tell 2")
        self.assertEqual(parted(one, with_changes(one, ("goes", (1,), True)))[2], [(1,)])
        self.assertEqual(parted(one, with_changes(one, ("row", 4, "set b 2")))[2], [(4,)])
        self.assertEqual(parted(one, with_changes(one, ("row", 5, "tell 1")))[2], [(5,)])
        # A line that reads otherwise may come to the same moment.
        self.assertEqual(parted(one, with_changes(one, ("row", 5, "tell plus 1 1")))[2], [])
        self.assertEqual(parted(one, with_changes(one, ("row", 1, "if over 1 a")))[2], [(1,)])

    def test_told_things_are_the_asker_s_own(self):
        one = run_lines(*self.LINES)
        other = with_changes(one, ("start", B, 1))
        wanted = parted(one, other)
        for addresses in parted(one, other):
            addresses.append(())
        for addresses in parted(one, one):
            addresses.clear()
        self.assertEqual(parted(one, other), wanted)
        self.assertEqual(one.addresses(), [(1,), (2,), (2, 1, 5), (7,), (8,)])


class LeadsTest(WhyCase):
    def test_choices_loops_and_calls_within_one_another(self):
        run = run_lines("fun f a", "while less a 1", "set a 1", "end", "give a", "main", "skip", "if 1",
                        "while less i 2", "call b f i", "set i plus i 1", "end", "else", "end", "if 0", "else", "end")
        outer = [(7,), (7, 0, 8, 0)]
        one, two = (7, 0, 8, 0, 9), (7, 0, 8, 1, 9)
        wanted = {
            (6,): [], (7,): [],
            (7, 0, 8, 0): [(7,)],
            one: outer,
            one + (0, 1, 0): outer + [one],
            one + (0, 1, 0, 2): outer + [one, one + (0, 1, 0)],
            one + (0, 1, 1): outer + [one, one + (0, 1, 0)],
            one + (0, 4): outer + [one],
            (7, 0, 8, 0, 10): outer,
            (7, 0, 8, 1): outer,
            two: outer + [(7, 0, 8, 1)],
            two + (0, 1, 0): outer + [(7, 0, 8, 1), two],
            two + (0, 4): outer + [(7, 0, 8, 1), two],
            (7, 0, 8, 1, 10): outer + [(7, 0, 8, 1)],
            (7, 0, 8, 2): outer + [(7, 0, 8, 1)],
            (14,): [],
        }
        self.assertEqual(run.addresses(), sorted(wanted))
        for address, answer in wanted.items():
            with self.subTest(address=address):
                self.assertEqual(leads(run, address), answer)
                self.assertIs(type(leads(run, address)), list)
                self.assertEqual(answer, sorted(answer))

    def test_looks(self):
        run = run_lines("main", "while less i 12", "set i plus i 1", "end")
        for k in range(13):
            self.assertEqual(leads(run, (1, k)), [(1, j) for j in range(k)])
        for k in range(12):
            self.assertEqual(leads(run, (1, k, 2)), [(1, j) for j in range(k + 1)])

    def test_the_rows_behind_else(self):
        run = run_lines("main", "if 0", "else", "if 0", "else", "tell 1", "end", "end")
        self.assertEqual(leads(run, (1, 1, 3, 1, 5)), [(1,), (1, 1, 3)])

    def test_addresses_without_a_moment(self):
        run = run_lines("main", "if 0", "tell 1", "else", "end")
        for address in ((), (0,), (1, 0), (1, 0, 2), (2,), (1, 1, 2), (10 ** 39,)):
            self.assert_no_moment(leads, run, address)
        self.assert_no_moment(leads, run_lines("main"), ())

    def test_told_leads_are_the_asker_s_own(self):
        run = run_lines("main", "if 1", "tell 1", "else", "end")
        leads(run, (1, 0, 2)).append(())
        self.assertEqual(leads(run, (1, 0, 2)), [(1,)])


class BothHaveItTest(WhyCase):
    def test_alike(self):
        one = run_lines("main", "set a 1", "tell b")
        other = with_changes(one, ("start", B, 1))
        self.assert_why(one, other, (1,), ("alike",))
        self.assert_why(one, one, (2,), ("alike",))

    def test_a_line_that_reads_otherwise_and_comes_to_the_same_is_alike(self):
        one = run_lines("main", "set a 1", "tell a")
        other = with_changes(one, ("row", 1, "set a plus 1 0"))
        self.assert_why(one, other, (1,), ("alike",))
        self.assert_why(one, other, (2,), ("alike",))

    def test_a_row_that_reads_otherwise(self):
        one = run_lines("main", "set a 1", "while less i a", "set i plus i 1", "end", "tell a")
        other = with_changes(one, ("row", 1, "set a 2"), ("row", 5, "tell plus a 1"), ("row", 2, "while less i 1"))
        self.assert_why(one, other, (1,), ("row", 1))
        self.assert_why(one, other, (2, 0), ("row", 2))
        # The read is otherwise, too, but the row is told first.
        self.assert_why(one, other, (5,), ("row", 5))

    def test_a_give_whose_call_s_line_reads_otherwise(self):
        lines = ("fun f a", "give a", "main", "call b f 1")
        one = run_lines(*lines)
        other = with_changes(one, ("row", 3, "call c f 1"))
        self.assert_why(one, other, (3,), ("alike",))
        self.assert_why(one, other, (3, 0, 1), ("row", 3))
        both = with_changes(one, ("row", 3, "call c f 1"), ("row", 1, "give plus a 1"))
        self.assert_why(one, both, (3, 0, 1), ("row", 1))
        # The row of the call is told ahead of the read.
        self.assert_why(one, with_changes(one, ("row", 3, "call c f 2")), (3, 0, 1), ("row", 3))

    def test_a_read_with_makers(self):
        one = run_lines("main", "set a b", "if a", "set a 5", "else", "end", "tell plus c a")
        other = with_changes(one, ("start", B, 1))
        self.assert_why(one, other, (1,), ("read", B, 0, 1, None, None))
        self.assert_why(one, other, (2,), ("read", A, 0, 1, (1,), (1,)))
        self.assert_why(one, other, (6,), ("read", A, 0, 5, (1,), (2, 0, 3)))
        self.assert_why(other, one, (6,), ("read", A, 5, 0, (2, 0, 3), (1,)))

    def test_a_maker_that_is_none_in_one_run(self):
        one = run_lines("main", "if b", "set a 5", "else", "end", "tell a")
        other = with_changes(one, ("start", B, 1))
        self.assert_why(one, other, (5,), ("read", A, 0, 5, None, (1, 0, 2)))
        self.assert_why(other, one, (5,), ("read", A, 5, 0, (1, 0, 2), None))

    def test_the_last_maker_ahead_counts(self):
        one = run_lines("main", "set a b", "set a plus a 1", "tell a", "set a 9")
        other = with_changes(one, ("start", B, 1))
        self.assert_why(one, other, (3,), ("read", A, 1, 2, (2,), (2,)))
        self.assert_why(one, other, (2,), ("read", A, 0, 1, (1,), (1,)))
        self.assert_why(one, other, (4,), ("alike",))

    def test_the_first_pair_that_is_unlike(self):
        one = run_lines("main", "tell plus plus c a plus b a", start={A: 1, B: 1})
        other = with_changes(one, ("start", A, 2), ("start", B, 2))
        self.assert_why(one, other, (1,), ("read", A, 1, 2, None, None))

    def test_reads_behind_the_unlike_one_may_be_of_other_places(self):
        one = run_lines("main", "tell plus cell a cell b")
        other = with_changes(one, ("start", A, 2), ("start", ("cell", 0), 9))
        self.assert_why(one, other, (1,), ("read", A, 0, 2, None, None))
        self.assert_why(one, with_changes(one, ("start", B, 3)), (1,), ("read", B, 0, 3, None, None))

    def test_a_moment_that_fell_in_one_run(self):
        one = run_lines("main", "tell plus over 1 a b", start={A: 1})
        other = with_changes(one, ("start", A, 0))
        self.assert_why(one, other, (1,), ("read", A, 1, 0, None, None))
        self.assert_why(other, one, (1,), ("read", A, 0, 1, None, None))

    def test_places_of_every_kind(self):
        one = run_lines("fun f a", "tell a", "give 0", "main", "tell cell 1", "ask a w 2", "draw b w", "draw b w",
                        "call b f c", start={("world", "w", 2): 1})
        other = with_changes(one, ("start", ("cell", 1), 3), ("start", ("world", "w", 2), 2), ("row", 6, "skip"),
                             ("start", C, 4))
        self.assert_why(one, other, (4,), ("read", ("cell", 1), 0, 3, None, None))
        self.assert_why(one, other, (5,), ("read", ("world", "w", 2), 1, 2, None, None))
        self.assert_why(one, other, (7,), ("read", ("drawn", "w"), 1, 0, (6,), None))
        self.assert_why(one, other, (8, 0, 1), ("read", box("a", (8,)), 0, 4, (8,), (8,)))

    def test_it_is_forced_otherwise(self):
        one = run_lines("main", "if 1", "else", "end", "while 0", "end")
        other = with_changes(one, ("goes", (1,), False), ("goes", (4, 0), True))
        self.assert_why(one, other, (1,), ("goes",))
        self.assert_why(one, other, (4, 0), ("goes",))

    def test_a_read_is_told_ahead_of_the_going(self):
        one = run_lines("main", "if a", "else", "end", forced={(1,): False})
        self.assert_why(one, with_changes(one, ("start", A, 1), ("goes", (1,), True)), (1,),
                        ("read", A, 0, 1, None, None))
        self.assert_why(one, with_changes(one, ("row", 1, "if 0"), ("goes", (1,), True)), (1,), ("row", 1))

    def test_an_address_that_neither_run_has(self):
        one = run_lines("main", "if 0", "tell 1", "else", "end")
        other = with_changes(one, ("start", A, 1))
        for address in ((), (0,), (1, 0), (1, 0, 2), (2,), (99,), (10 ** 39,)):
            self.assert_no_moment(why, one, other, address)
        self.assert_no_moment(why, run_lines("main"), run_lines("main"), ())


class OneHasItTest(WhyCase):
    def assert_both_ways(self, one, other, address, lead):
        """Fresh in the other one, and gone where the runs are changed about."""
        self.assert_why(one, other, address, ("fresh", lead))
        self.assert_why(other, one, address, ("gone", lead))

    def test_a_choice_that_goes_otherwise(self):
        one = run_lines("main", "if a", "tell 1", "else", "tell 2", "end")
        other = with_changes(one, ("start", A, 1))
        self.assert_both_ways(one, other, (1, 0, 2), (1,))
        self.assert_both_ways(other, one, (1, 1, 4), (1,))

    def test_the_first_lead_counts(self):
        one = run_lines("main", "if a", "if 1", "tell 1", "else", "end", "else", "end")
        other = with_changes(one, ("start", A, 1))
        self.assert_both_ways(one, other, (1, 0, 2), (1,))
        self.assert_both_ways(one, other, (1, 0, 2, 0, 3), (1,))

    def test_a_lead_that_goes_alike_does_not_count(self):
        one = run_lines("main", "if 1", "if a", "tell 1", "else", "end", "else", "end")
        other = with_changes(one, ("start", A, 1))
        self.assert_both_ways(one, other, (1, 0, 2, 0, 3), (1, 0, 2))

    def test_looks(self):
        one = run_lines("main", "while less i n", "set i plus i 1", "end", start={box("n"): 1})
        other = with_changes(one, ("start", box("n"), 3))
        for address in ((1, 1, 2), (1, 2), (1, 2, 2), (1, 3)):
            self.assert_both_ways(one, other, address, (1, 1))

    def test_a_look_that_the_other_run_lacks(self):
        # The first run spends its bound ahead of the loop.
        one = run_lines("main", "if a", "skip", "skip", "else", "end", "while 1", "end", bound=4, start={A: 1})
        other = with_changes(one, ("start", A, 0))
        self.assert_why(one, other, (6, 1), ("ended", ("tired",)))
        self.assert_both_ways(one, other, (6, 2), (6, 1))

    def test_a_lead_that_fell(self):
        one = run_lines("main", "if over 1 a", "tell 1", "else", "tell 2", "end")
        other = with_changes(one, ("start", A, 1))
        self.assertEqual(one.end(), ("fell", "nought", (1,)))
        self.assert_both_ways(one, other, (1, 0, 2), (1,))
        low = with_changes(one, ("start", A, 2))
        self.assert_both_ways(one, low, (1, 1, 4), (1,))
        one = run_lines("main", "while over 1 a", "set a 0", "set a 2", "end")
        other = with_changes(one, ("start", A, 1))
        for address in ((1, 0, 2), (1, 0, 3), (1, 1)):
            self.assert_both_ways(one, other, address, (1, 0))

    def test_a_call_that_fell_goes_alike(self):
        one = run_lines("fun f a", "if a", "tell a", "else", "end", "give a", "main", "call b f over 6 c")
        other = with_changes(one, ("start", C, 2))
        end = ("fell", "nought", (7,))
        self.assertEqual(one.end(), end)
        self.assert_why(one, other, (7, 0, 1), ("ended", end))
        self.assert_both_ways(one, other, (7, 0, 1, 0, 2), (7, 0, 1))
        self.assert_why(one, other, (7, 0, 5), ("ended", end))
        self.assert_why(other, one, (7, 0, 5), ("ended", end))

    def test_a_call_that_the_other_run_lacks(self):
        one = run_lines("fun f", "give 1", "main", "if a", "skip", "skip", "else", "end", "call b f", "call b f",
                        bound=5, start={A: 1})
        other = with_changes(one, ("start", A, 0))
        self.assert_why(one, other, (9,), ("ended", ("tired",)))
        self.assert_both_ways(one, other, (9, 0, 1), (9,))

    def test_a_call_whose_line_names_another_function(self):
        lines = ("fun f", "tell 1", "give 1", "fun g", "if 1", "tell 2", "else", "end", "give 2", "main", "call a f")
        one = run_lines(*lines)
        other = with_changes(one, ("row", 10, "call a g"))
        for address in ((10, 0, 4), (10, 0, 4, 0, 5), (10, 0, 8), (10, 0, 1), (10, 0, 2)):
            self.assert_why(one, other, address, ("row", 10))
            self.assert_why(other, one, address, ("row", 10))
        self.assert_why(one, other, (10,), ("alike",))

    def test_a_call_that_names_another_function_and_fell(self):
        lines = ("fun f a", "give 1", "fun g a", "give 2", "main", "call a f over 1 0")
        one = run_lines(*lines)
        other = with_changes(one, ("row", 5, "call a g 1"))
        self.assert_why(one, other, (5,), ("row", 5))
        self.assert_why(one, other, (5, 0, 3), ("row", 5))

    def test_a_lead_ahead_of_such_a_call(self):
        lines = ("fun f", "give 1", "fun g", "give 2", "main", "if a", "call b f", "else", "end", "call c f")
        one = run_lines(*lines)
        other = with_changes(one, ("row", 6, "call b g"), ("start", A, 1))
        self.assert_both_ways(one, other, (5, 0, 6, 0, 3), (5,))

    def test_calls_of_one_function_with_other_lines_do_not_count(self):
        lines = ("fun f a", "if a", "tell 1", "else", "end", "give 1", "main", "call b f 0")
        one = run_lines(*lines)
        other = with_changes(one, ("row", 7, "call c f 1"))
        self.assert_both_ways(one, other, (7, 0, 1, 0, 2), (7, 0, 1))

    def test_the_other_run_ended_fell_or_tired(self):
        one = run_lines("main", "skip", "tell over 1 a", "skip", "skip")
        other = with_changes(one, ("start", A, 1))
        for address in ((3,), (4,)):
            self.assert_why(one, other, address, ("ended", FELL))
            self.assert_why(other, one, address, ("ended", FELL))
        one = run_lines("main", "while less i n", "set i plus i 1", "end", "if 1", "tell 1", "else", "end", "tell 2",
                        bound=5, start={box("n"): 9})
        other = with_changes(one, ("start", box("n"), 0))
        self.assertEqual(one.end(), ("tired",))
        for address in ((4,), (8,)):
            self.assert_why(one, other, address, ("ended", ("tired",)))
        # The choice itself is lacking, and it is this one's lead.
        self.assert_both_ways(one, other, (4, 0, 5), (4,))


class CausesTest(WhyCase):
    LINES = ("fun f a", "if less a 2", "set b plus a cell a", "else", "call b g a", "end", "give b",
             "fun g a", "give over 12 minus a 3",
             "main", "set a n", "while less i a", "call c f i", "put i c", "if same c 1", "tell c", "else", "draw d w",
             "end", "set i plus i 1", "end", "ask b w c", "tell plus b d")

    def test_from_why_to_why_back_to_a_change(self):
        one = run_lines(*self.LINES, start={box("n"): 3, ("cell", 1): 2, ("world", "w", 0): 4}, bound=40)
        changes = [("start", box("n"), 2), ("start", box("n"), 5), ("start", ("cell", 1), 0), ("start", ("cell", 0), 1),
                   ("start", ("world", "w", 0), 1), ("row", 2, "set b a"), ("row", 4, "call b f minus a 1"),
                   ("row", 6, "give plus b 1"), ("row", 8, "give a"), ("row", 12, "call c g i"),
                   ("row", 12, "call d f i"), ("row", 19, "set i plus i 2"), ("row", 19, "skip"),
                   ("goes", (11, 1), False), ("goes", (11, 2, 14), True), ("goes", (11, 3), True)]
        for change in changes:
            other = with_changes(one, change)
            self.assertNotEqual(parted(one, other)[:3], ([], [], []), change)
            self.assert_causes_lead_back(one, other)
            self.assert_causes_lead_back(other, one)
            for more in changes:
                if more[:2] != change[:2]:
                    self.assert_causes_lead_back(one, with_changes(one, change, more))

    def test_a_chain(self):
        one = run_lines("main", "set a b", "if a", "set c 1", "else", "end", "tell c")
        other = with_changes(one, ("start", B, 1))
        self.assert_why(one, other, (6,), ("read", C, 0, 1, None, (2, 0, 3)))
        self.assert_why(one, other, (2, 0, 3), ("fresh", (2,)))
        self.assert_why(one, other, (2,), ("read", A, 0, 1, (1,), (1,)))
        self.assert_why(one, other, (1,), ("read", B, 0, 1, None, None))


class OwnTest(WhyCase):
    def test_nothing_is_changed(self):
        one = run_lines("main", "if a", "tell 1", "else", "end")
        other = with_changes(one, ("start", A, 1))
        before = (one.moments(), other.moments())
        parted(one, other)
        leads(other, (1, 0, 2))
        why(one, other, (1, 0, 2))
        self.assert_no_moment(why, one, other, ())
        self.assert_no_moment(leads, one, ())
        self.assertEqual((one.moments(), other.moments()), before)
        self.assertEqual(why(one, other, (1, 0, 2)), ("fresh", (1,)))


if __name__ == "__main__":
    unittest.main()
