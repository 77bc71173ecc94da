"""Settings and changes: made, told, changed, alike, and what is refused [3.1, 3.2, 4.1, 4.2, 0.3]."""

import itertools
import unittest

from hadbeen import errors
from hadbeen.errors import NoChange, NoPlace, NoValue
from hadbeen.programs import Program, read_program
from hadbeen.settings import Setting, key_of

LANGUAGE = (
    "skip set put ask draw tell if else end while call fun main give "
    "cell plus minus times over rest less same"
).split()
TEXT = "\n".join((
    "fun f a", "give a", "main", "if a", "skip", "else", "end", "while 0", "end", "call b f 1", "tell a"))
A, B = ("box", (), "a"), ("box", (), "b")
CELL, SKY = ("cell", 3), ("world", "sky", 7)
START = {A: 5, CELL: 999999, SKY: 1}
FORCED = {(3,): True, (7, 0): False}
GOOD_PLACES = (
    A, ("box", (), "zzzzzz"), ("cell", 0), ("cell", 999999), ("world", "w", 0), ("world", "abcdef", 999999),
    ("world", "box", 5), ("box", (), "world"),
)
NO_PLACES = (
    None, 0, 5, True, "", "box", "cell", "a", (), ("box",), ("cell",), ("world",), ("box", ()), ("box", "a"),
    ("box", (), "a", 1), ("box", (3,), "a"), ("box", (0,), "a"), ("box", None, "a"), ("box", 0, "a"), ("box", "", "a"),
    ("box", (), ""), ("box", (), "abcdefg"), ("box", (), "A"), ("box", (), "a1"), ("box", (), 1), ("box", (), None),
    ("box", (), ("a",)), ("box", "a", ()), ("cell", -1), ("cell", 1000000), ("cell", 10 ** 39), ("cell", True),
    ("cell", False), ("cell", None), ("cell", "1"), ("cell", ()), ("cell", (1,)), ("cell", 1, 1), ("cell", (), 1),
    ("cell", (), "a"), ("world", "w"), ("world", 1), ("world", "w", -1), ("world", "w", 1000000), ("world", "w", True),
    ("world", "w", "1"), ("world", "w", None), ("world", "W", 1), ("world", "", 1), ("world", "sevenly", 1),
    ("world", (), 1), ("world", 1, "w"), ("world", "w", 1, 1), ("world", (), "w"), ("drawn", "w"), ("drawn", "w", 0),
    ("drawn", (), "w"), ("Box", (), "a"), ("other", 1), ("other", (), "a"), (1, (), "a"), (("box",), (), "a"),
) + tuple(("box", (), word) for word in LANGUAGE) + tuple(("world", word, 1) for word in LANGUAGE)
# These can't be keys of a dict, but a change may hold them.
NO_KEYS = (
    [], {}, ["box", (), "a"], ["cell", 3], ("box", [], "a"), ("box", (), ["a"]), ("cell", [1]), ("cell", {}),
    ("world", ["w"], 1), ("world", "w", []), ([], 1), ([], (), "a"), {"cell": 1},
)
NO_VALUES = (-1, 1000000, 10 ** 39, -10 ** 39, True, False, None, "", "5", (), (5,), [], [5], {})
GOOD_ADDRESSES = ((), (0,), (3,), (1, 2, 3), (7, 0), (10 ** 39,), (999999, 1000000), tuple(range(100)))
NO_ADDRESSES = (
    None, 0, 3, True, "", "3", [], [3], {}, (-1,), (3, -1), (True,), (3, False), (None,), ("3",), ((3,),), ([3],),
    (3, ()), (-10 ** 39,),
)
NO_TRUTHS = (0, 1, 2, -1, "", "yes", "True", "None", (), (True,), [], [True], {})
NO_CHANGES = (
    None, 0, True, "", "start", "row", [], {}, (), ("start",), ("row",), ("goes",), ("start", A), ("row", 4),
    ("goes", (3,)), ("start", A, 5, 5), ("row", 4, "skip", 1), ("goes", (3,), True, True), ["start", A, 5],
    ["row", 4, "skip"], ["goes", (3,), True], ("Start", A, 5), ("starts", A, 5), ("", A, 5), (None, A, 5), (1, 4, 5),
    (True, A, 5), (("start",), A, 5), (["start"], A, 5), ("set", A, 5), ("rows", 4, "skip"), ("go", (3,), True),
    (A, 5, "start"), {"start": A}, "abc", ("a", "b", "c"), ("drawn", "w", 1), ("cell", 1, 1),
)


class SettingCase(unittest.TestCase):
    def setUp(self):
        self.program = read_program(TEXT)
        self.setting = Setting(self.program, START, 20, FORCED)

    def assert_tells(self, setting, text, start, bound, forced):
        self.assertIsInstance(setting, Setting)
        self.assertIsInstance(setting.program, Program)
        self.assertEqual(setting.program.text(), text)
        self.assertEqual(setting.start(), start)
        self.assertEqual(setting.bound, bound)
        self.assertEqual(setting.forced(), forced)
        for truth in setting.forced().values():
            self.assertIs(type(truth), bool)
        for place, value in start.items():
            self.assertEqual(setting.holds(place), value)

    def assert_unchanged(self):
        self.assert_tells(self.setting, TEXT, START, 20, FORCED)

    def assert_raises_just(self, refusal, asked, *given):
        with self.subTest(given=given):
            with self.assertRaises(errors.HadError) as caught:
                asked(*given)
            self.assertIs(type(caught.exception), refusal)

    def assert_refused(self, refusal, change):
        self.assert_raises_just(refusal, self.setting.changed, change)
        self.assert_unchanged()


class MadeTest(SettingCase):
    def test_fields_and_dicts(self):
        self.assert_tells(self.setting, TEXT, {A: 5, CELL: 999999, SKY: 1}, 20, {(3,): True, (7, 0): False})
        self.assertIs(type(self.setting.start()), dict)
        self.assertIs(type(self.setting.forced()), dict)

    def test_what_may_be_left_out(self):
        self.assert_tells(Setting(self.program, {}), TEXT, {}, 400, {})
        self.assert_tells(Setting(self.program, {A: 1}, 7), TEXT, {A: 1}, 7, {})
        self.assert_tells(Setting(self.program, {}, 7, None), TEXT, {}, 7, {})
        self.assert_tells(Setting(self.program, {}, 7, {}), TEXT, {}, 7, {})

    def test_two_settings_keep_their_own(self):
        one, other = Setting(self.program, {}), Setting(self.program, {})
        changed = one.changed(("goes", (3,), True)).changed(("start", A, 1))
        self.assertEqual((one.forced(), one.start()), ({}, {}))
        self.assertEqual((other.forced(), other.start()), ({}, {}))
        self.assertEqual((changed.forced(), changed.start()), ({(3,): True}, {A: 1}))
        self.assertEqual(Setting(self.program, {}).forced(), {})

    def test_bounds(self):
        for bound in (1, 2, 399, 400, 401, 0):
            self.assertEqual(Setting(self.program, {}, bound).bound, bound)

    def test_places_of_a_start(self):
        for place in GOOD_PLACES:
            for value in (0, 1, 999999):
                setting = Setting(self.program, {place: value})
                self.assert_tells(setting, TEXT, {place: value}, 400, {})

    def test_addresses_that_are_forced(self):
        for address in GOOD_ADDRESSES:
            for truth in (True, False):
                self.assertEqual(Setting(self.program, {}, 1, {address: truth}).forced(), {address: truth})

    def test_a_place_that_nobody_gave_holds_0(self):
        for place in (B, ("cell", 4), ("cell", 0), ("world", "sky", 8), ("world", "sea", 7), ("drawn", "sky"),
                      ("box", (3,), "a"), ("box", (9, 0), "a")):
            self.assertEqual(self.setting.holds(place), 0)
            self.assertIs(type(self.setting.holds(place)), int)
        self.assert_unchanged()

    def test_a_place_given_0(self):
        setting = Setting(self.program, {A: 0})
        self.assertEqual(setting.holds(A), 0)
        self.assertEqual(setting.start(), {A: 0})

    def test_keys_that_are_no_place_of_a_start(self):
        for place in NO_PLACES:
            self.assert_raises_just(NoPlace, Setting, self.program, {place: 5})
            self.assert_raises_just(NoPlace, Setting, self.program, {A: 5, place: 5, CELL: 1})
            self.assert_raises_just(NoPlace, Setting, self.program, {place: 5}, 10, {(3,): True})

    def test_values_that_are_none(self):
        for value in NO_VALUES:
            for place in GOOD_PLACES:
                self.assert_raises_just(NoValue, Setting, self.program, {place: value})
            self.assert_raises_just(NoValue, Setting, self.program, {A: 5, B: value, CELL: 1})

    def test_keys_are_asked_ahead_of_values(self):
        for value in NO_VALUES:
            for place in (("drawn", "w"), ("cell", -1), ("box", (1,), "a"), None):
                self.assert_raises_just(NoPlace, Setting, self.program, {place: value})
                self.assert_raises_just(NoPlace, Setting, self.program, {A: value, place: 1})
                self.assert_raises_just(NoPlace, Setting, self.program, {place: 1, A: value})

    def test_what_is_refused_changes_nothing(self):
        start, forced = {A: -1, CELL: 2}, {(3,): True}
        self.assert_raises_just(NoValue, Setting, self.program, start, 5, forced)
        self.assertEqual((start, forced), ({A: -1, CELL: 2}, {(3,): True}))
        self.assertEqual(self.program.text(), TEXT)


class OwnTest(SettingCase):
    """Nothing handed in is changed or kept, and what is told is the asker's own [0.3]."""

    def test_what_is_handed_in_is_changed_behind_the_call(self):
        start, forced = dict(START), dict(FORCED)
        setting = Setting(self.program, start, 20, forced)
        start[A] = 6
        start[B] = 7
        start.pop(SKY)
        forced[(3,)] = False
        forced[()] = True
        forced.pop((7, 0))
        self.assert_tells(setting, TEXT, START, 20, FORCED)
        self.assertEqual(setting.holds(B), 0)
        self.assertEqual(setting.changed(("start", A, 5)).start(), START)

    def test_what_is_handed_in_is_not_changed(self):
        start, forced = dict(START), dict(FORCED)
        setting = Setting(self.program, start, 20, forced)
        setting.changed(("start", B, 1)).changed(("goes", (3,), None)).changed(("row", 4, "tell 1"))
        self.assertEqual((start, forced), (START, FORCED))
        self.assertEqual(self.program.text(), TEXT)

    def test_what_is_told_is_changed_behind_the_call(self):
        told = self.setting.start()
        told.clear()
        told[B] = 1
        ways = self.setting.forced()
        ways.clear()
        ways[()] = False
        self.assert_unchanged()
        self.assertIsNot(self.setting.start(), self.setting.start())
        self.assertIsNot(self.setting.forced(), self.setting.forced())

    def test_settings_share_nothing_that_is_told(self):
        for change in (("start", A, 6), ("row", 4, "tell 1"), ("goes", (3,), False), ("goes", (), None)):
            changed = self.setting.changed(change)
            start, forced = changed.start(), changed.forced()
            changed.start().clear()
            changed.forced().clear()
            self.setting.start().clear()
            self.setting.forced().clear()
            self.assertEqual((changed.start(), changed.forced()), (start, forced))
            self.assert_unchanged()

    def test_asked_again(self):
        for turn in range(3):
            self.assert_unchanged()
            changed = self.setting.changed(("start", B, 9))
            self.assertEqual(changed.start(), {A: 5, CELL: 999999, SKY: 1, B: 9})


class KeyTest(SettingCase):
    def test_the_first_two(self):
        for change, key in (
                (("start", A, 5), ("start", A)), (("row", 4, "skip"), ("row", 4)), (("goes", (), None), ("goes", ())),
                (("goes", (3, 1), True), ("goes", (3, 1)))):
            self.assertEqual(key_of(change), key)
            self.assertIs(type(key_of(change)), tuple)

    def test_the_rest_of_a_change_is_not_asked(self):
        for change in (("start", "other", -1), ("row", -1, None), ("goes", (-1,), 1), ("start", None, None)):
            self.assertEqual(key_of(change), change[:2])

    def test_what_is_no_change(self):
        for thing in NO_CHANGES:
            self.assert_raises_just(NoChange, key_of, thing)


class StartChangeTest(SettingCase):
    def test_a_place_that_was_given(self):
        for place, value in ((A, 6), (CELL, 0), (SKY, 999999), (A, 5)):
            start = dict(START)
            start[place] = value
            self.assert_tells(self.setting.changed(("start", place, value)), TEXT, start, 20, FORCED)
            self.assert_unchanged()

    def test_a_place_that_nobody_gave(self):
        for place, value in itertools.product(GOOD_PLACES, (0, 1, 999999)):
            start = dict(START)
            start[place] = value
            self.assert_tells(self.setting.changed(("start", place, value)), TEXT, start, 20, FORCED)
            self.assert_unchanged()

    def test_0_for_a_place_that_nobody_gave(self):
        changed = self.setting.changed(("start", B, 0))
        self.assertEqual(changed.start(), {A: 5, CELL: 999999, SKY: 1, B: 0})
        self.assertIs(changed.alike(self.setting), True)

    def test_no_place(self):
        for place in NO_PLACES + NO_KEYS:
            self.assert_refused(NoPlace, ("start", place, 5))

    def test_no_value(self):
        for value in NO_VALUES:
            for place in (A, B, CELL, SKY):
                self.assert_refused(NoValue, ("start", place, value))

    def test_the_place_is_asked_first(self):
        for place in (("drawn", "w"), ("box", (1,), "a"), None, [], ("cell", True)):
            for value in NO_VALUES:
                self.assert_refused(NoPlace, ("start", place, value))


class RowChangeTest(SettingCase):
    def test_a_line_put_otherwise(self):
        for number, line in ((1, "give plus a 1"), (3, "if b"), (4, "tell 3"), (4, "skip"), (7, "while 1"),
                             (9, "call c f a"), (10, "draw a w")):
            lines = TEXT.split("\n")
            lines[number] = line
            changed = self.setting.changed(("row", number, line))
            self.assert_tells(changed, "\n".join(lines), START, 20, FORCED)
            self.assertEqual(changed.program.row(number), read_program("\n".join(lines)).row(number))
            self.assert_unchanged()
            self.assertEqual(self.program.text(), TEXT)

    def test_what_a_program_refuses(self):
        for number, line in (
                (4, "if 1"), (3, "while 1"), (3, "skip"), (7, "if 0"), (1, "tell a"), (9, "set b 1"), (9, "call b f"),
                (9, "call b f 1 2"), (9, "call b g 1"), (4, "call b f 1"), (4, ""), (4, "skip "), (4, " skip"),
                (4, "skip\n"), (4, "skip\nskip"), (4, "else"), (4, "end"), (4, None), (4, 1), (4, ["skip"]),
                (4, ("skip",)), (4, "tell 01"), (0, "fun f a"), (2, "main"), (5, "else"), (6, "end"), (8, "end"),
                (0, "skip"), (2, "skip"), (11, "skip"), (12, "skip"), (-1, "tell a"), (-7, "skip"), (10 ** 39, "skip"),
                (-1, None), (99, "")):
            self.assert_refused(NoChange, ("row", number, line))

    def test_numbers_that_are_no_whole_ones(self):
        for number in (None, True, False, "4", (4,), [4], [], {}, ()):
            for line in ("skip", "give 1", None):
                self.assert_refused(NoChange, ("row", number, line))


class GoesChangeTest(SettingCase):
    def test_forced_so(self):
        for address, truth in itertools.product(GOOD_ADDRESSES, (True, False)):
            forced = dict(FORCED)
            forced[address] = truth
            self.assert_tells(self.setting.changed(("goes", address, truth)), TEXT, START, 20, forced)
            self.assert_unchanged()

    def test_let_go_free(self):
        freed = self.setting.changed(("goes", (3,), None))
        self.assert_tells(freed, TEXT, START, 20, {(7, 0): False})
        self.assert_unchanged()
        self.assert_tells(freed.changed(("goes", (7, 0), None)), TEXT, START, 20, {})
        self.assert_tells(freed.changed(("goes", (3,), False)), TEXT, START, 20, {(3,): False, (7, 0): False})

    def test_one_let_go_free_that_was_not_forced(self):
        for address in ((), (4,), (7,), (7, 0, 0), (10 ** 39,)):
            changed = self.setting.changed(("goes", address, None))
            self.assert_tells(changed, TEXT, START, 20, FORCED)
            self.assertIs(changed.alike(self.setting), True)

    def test_no_address(self):
        for address, truth in itertools.product(NO_ADDRESSES, (True, False, None)):
            self.assert_refused(NoChange, ("goes", address, truth))

    def test_no_truth(self):
        for truth in NO_TRUTHS:
            for address in ((), (3,), (7, 0), (4,)):
                self.assert_refused(NoChange, ("goes", address, truth))


class NoChangeTest(SettingCase):
    def test_what_is_no_tuple_of_three_that_begins_so(self):
        for thing in NO_CHANGES:
            self.assert_refused(NoChange, thing)

    def test_that_is_asked_ahead_of_place_and_value(self):
        for thing in (("start", None), ("start", None, -1, 0), ["start", None, -1], ("begin", None, -1)):
            self.assert_refused(NoChange, thing)


class OrderTest(SettingCase):
    CHANGES = (
        ("start", A, 6), ("start", B, 0), ("row", 4, "tell 1"), ("row", 9, "call c f 2"), ("goes", (3,), None),
        ("goes", (), True))

    def put(self, changes):
        setting = self.setting
        for change in changes:
            setting = setting.changed(change)
        return setting

    def test_unlike_keys_in_any_order(self):
        text = TEXT.replace("skip", "tell 1").replace("call b f 1", "call c f 2")
        start = {A: 6, B: 0, CELL: 999999, SKY: 1}
        for changes in itertools.permutations(self.CHANGES):
            self.assert_tells(self.put(changes), text, start, 20, {(7, 0): False, (): True})
            self.assertIs(self.put(changes).alike(self.put(self.CHANGES)), True)
        self.assert_unchanged()

    def test_the_later_one_of_two_with_one_key(self):
        for one, other in (
                (("start", A, 6), ("start", A, 7)), (("row", 4, "tell 1"), ("row", 4, "tell 2")),
                (("row", 9, "call c f 2"), ("row", 9, "call b f 9")), (("goes", (3,), None), ("goes", (3,), False)),
                (("goes", (9,), True), ("goes", (9,), False)), (("goes", (), True), ("goes", (), None))):
            for first, last in ((one, other), (other, one)):
                both, alone = self.put((first, last)), self.put((last,))
                self.assert_tells(both, alone.program.text(), alone.start(), 20, alone.forced())
                self.assertIs(both.alike(alone), True)


class AlikeTest(SettingCase):
    def assert_alike(self, one, other, truth):
        self.assertIs(one.alike(other), truth)
        self.assertIs(other.alike(one), truth)

    def test_the_same(self):
        self.assert_alike(self.setting, self.setting, True)
        self.assert_alike(self.setting, Setting(read_program(TEXT), dict(START), 20, dict(FORCED)), True)
        self.assert_alike(Setting(self.program, {}), Setting(self.program, {}, 400, {}), True)

    def test_the_order_in_which_places_were_given(self):
        start = {SKY: 1, CELL: 999999, A: 5}
        forced = {(7, 0): False, (3,): True}
        self.assert_alike(self.setting, Setting(self.program, start, 20, forced), True)

    def test_0_and_not_given(self):
        for place in GOOD_PLACES + (B,):
            self.assert_alike(Setting(self.program, {place: 0}), Setting(self.program, {}), True)
            self.assert_alike(Setting(self.program, {place: 1}), Setting(self.program, {}), False)
            self.assert_alike(Setting(self.program, {place: 0}), Setting(self.program, {("cell", 9): 0}), True)
            self.assert_alike(Setting(self.program, {place: 0}), Setting(self.program, {place: 1}), False)

    def test_other_programs(self):
        other = read_program(TEXT.replace("tell a", "tell b"))
        self.assert_alike(self.setting, Setting(other, START, 20, FORCED), False)
        changed = self.setting.changed(("row", 10, "tell b"))
        self.assert_alike(self.setting, changed, False)
        self.assert_alike(changed, Setting(other, START, 20, FORCED), True)

    def test_other_bounds(self):
        self.assert_alike(self.setting, Setting(self.program, START, 21, FORCED), False)
        self.assert_alike(Setting(self.program, {}), Setting(self.program, {}, 399), False)

    def test_other_forced(self):
        for forced in (None, {}, {(3,): True}, {(3,): False, (7, 0): False}, {(3,): True, (7, 1): False},
                       {(3,): True, (7, 0): False, (): True}):
            self.assert_alike(self.setting, Setting(self.program, START, 20, forced), False)
        # An address that is forced is not alike to one that is free, whatever it says.
        self.assert_alike(Setting(self.program, {}, 5, {(3,): False}), Setting(self.program, {}, 5), False)

    def test_other_values(self):
        for start in ({}, {A: 5}, {A: 6, CELL: 999999, SKY: 1}, {B: 5, CELL: 999999, SKY: 1},
                      {A: 5, CELL: 999999, SKY: 1, B: 1}, {A: 5, ("cell", 4): 999999, SKY: 1}):
            self.assert_alike(self.setting, Setting(self.program, start, 20, FORCED), False)

    def test_changed_and_changed_back(self):
        for there, back in (
                (("start", A, 6), ("start", A, 5)), (("start", B, 6), ("start", B, 0)),
                (("row", 4, "tell 1"), ("row", 4, "skip")), (("goes", (3,), False), ("goes", (3,), True)),
                (("goes", (3,), None), ("goes", (3,), True)), (("goes", (), True), ("goes", (), None))):
            away = self.setting.changed(there)
            self.assert_alike(away, self.setting, False)
            self.assert_alike(away.changed(back), self.setting, True)

    def test_nothing_is_changed_by_asking(self):
        other = Setting(self.program, {A: 0, B: 2}, 5)
        self.setting.alike(other)
        self.assert_unchanged()
        self.assert_tells(other, TEXT, {A: 0, B: 2}, 5, {})


if __name__ == "__main__":
    unittest.main()
