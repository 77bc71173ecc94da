"""Expressions: told, written, read, reckoned, and what is refused [1.1 to 1.5, 0.3]."""

import itertools
import unittest

from hadbeen import errors
from hadbeen.errors import NoProgram
from hadbeen.exprs import Box, Cell, Expr, Number, Two, read_expr

TWO_WORDS = ("plus", "minus", "times", "over", "rest", "less", "same")
LANGUAGE = (
    "skip set put ask draw tell if else end while call fun main give "
    "cell plus minus times over rest less same"
).split()
OTHER_REFUSALS = (
    errors.NoChange, errors.NoPlace, errors.NoValue, errors.NoMoment, errors.NoPart,
    errors.NoKey, errors.NoWish, errors.NoText, errors.BadBook,
)


class Holder:
    """Tells what its places hold and keeps what it was asked for, in order."""

    def __init__(self, held):
        self.held = held
        self.looks = []

    def look(self, place):
        self.looks.append(place)
        return self.held.get(place, 0)


def reckoned(text, held=None):
    return read_expr(text).reckon(Holder(held or {}).look)


def looks_of(text, held=None):
    holder = Holder(held or {})
    outcome = read_expr(text).reckon(holder.look)
    return outcome, holder.looks


def tuples_alone(told):
    return type(told) is tuple and all(
        tuples_alone(item) for item in told if not isinstance(item, (str, int))
    )


class RefusedCase(unittest.TestCase):
    def assert_refused(self, thing):
        with self.subTest(thing=thing):
            with self.assertRaises(NoProgram) as caught:
                read_expr(thing)
            self.assertNotIsInstance(caught.exception, OTHER_REFUSALS)

    def assert_read(self, text):
        with self.subTest(text=text):
            self.assertEqual(read_expr(text).words(), text)


class MadeTest(unittest.TestCase):
    def test_the_four_kinds_stand_under_expr(self):
        for made in (Number(1), Box("a"), Cell(Number(1)), Two("plus", Number(1), Box("a"))):
            self.assertIsInstance(made, Expr)
        self.assertIsInstance(Expr(), Expr)

    def test_fields(self):
        self.assertEqual(Number(7).value, 7)
        self.assertEqual(Box("ab").name, "ab")
        self.assertEqual(Cell(Box("ab")).inner.told(), ("box", "ab"))
        two = Two("less", Number(1), Cell(Number(2)))
        self.assertEqual(two.word, "less")
        self.assertEqual(two.left.told(), ("number", 1))
        self.assertEqual(two.right.told(), ("cell", ("number", 2)))

    def test_told(self):
        self.assertEqual(Number(0).told(), ("number", 0))
        self.assertEqual(Number(999999).told(), ("number", 999999))
        self.assertEqual(Box("a").told(), ("box", "a"))
        self.assertEqual(Cell(Cell(Box("i"))).told(), ("cell", ("cell", ("box", "i"))))
        for word in TWO_WORDS:
            made = Two(word, Number(1), Box("b"))
            self.assertEqual(made.told(), (word, ("number", 1), ("box", "b")))
            self.assertEqual(made.words(), word + " 1 b")

    def test_told_is_made_of_tuples(self):
        made = Two("plus", Cell(Two("rest", Number(1), Box("a"))), Number(2))
        self.assertTrue(tuples_alone(made.told()))

    def test_words(self):
        self.assertEqual(Number(0).words(), "0")
        self.assertEqual(Number(999999).words(), "999999")
        self.assertEqual(Box("abcdef").words(), "abcdef")
        self.assertEqual(Cell(Number(10)).words(), "cell 10")
        made = Two("plus", Box("a"), Two("times", Number(2), Cell(Box("i"))))
        self.assertEqual(made.words(), "plus a times 2 cell i")

    def test_what_is_made_beyond_the_bounds_is_not_refused(self):
        made = Box("a")
        for depth in range(7):
            made = Cell(made)
        self.assertEqual(made.words(), "cell " * 7 + "a")
        self.assertEqual(made.reckon(lambda place: 3), 3)


class ReadTest(RefusedCase):
    def test_the_kinds(self):
        for text, kind in (("5", Number), ("five", Box), ("cell 5", Cell), ("same 5 five", Two)):
            self.assertIs(type(read_expr(text)), kind)

    def test_read_fields(self):
        self.assertEqual(read_expr("12").value, 12)
        self.assertIs(type(read_expr("1").value), int)
        self.assertEqual(read_expr("ab").name, "ab")
        self.assertEqual(read_expr("cell ab").inner.name, "ab")
        two = read_expr("minus ab 12")
        self.assertEqual((two.word, two.left.name, two.right.value), ("minus", "ab", 12))

    def test_the_document_s_own(self):
        read = read_expr("plus a times 2 cell i")
        self.assertEqual(
            read.told(), ("plus", ("box", "a"), ("times", ("number", 2), ("cell", ("box", "i")))))
        self.assertEqual(read.words(), "plus a times 2 cell i")
        self.assertTrue(tuples_alone(read.told()))

    def test_all_words_read_and_written_back(self):
        for word in TWO_WORDS:
            for left, right in itertools.product(("0", "a", "cell b", "plus 1 c"), repeat=2):
                text = " ".join((word, left, right))
                told = read_expr(text).told()
                self.assertEqual(told, (word, read_expr(left).told(), read_expr(right).told()))
                self.assertEqual(read_expr(text).words(), text)
                self.assertEqual(read_expr(read_expr(text).words()).told(), told)

    def test_what_was_made_is_read_back(self):
        leaves = [Number(0), Number(999999), Box("a"), Box("zzzzzz"), Cell(Number(3)), Cell(Cell(Box("q")))]
        for word in TWO_WORDS:
            for left, right in itertools.product(leaves, repeat=2):
                made = Cell(Two(word, left, right))
                self.assertEqual(read_expr(made.words()).told(), made.told())

    def test_values_at_their_edges(self):
        for text in ("0", "1", "9", "10", "99999", "100000", "999999"):
            self.assertEqual(read_expr(text).told(), ("number", int(text)))
        for text in ("1000000", "9999999", "1" * 40, "9" * 5000):
            self.assert_refused(text)

    def test_a_nought_ahead(self):
        for text in ("00", "01", "007", "000000", "0999999", "0000001", "plus 01 2", "plus 1 02", "cell 00"):
            self.assert_refused(text)
        self.assertEqual(read_expr("plus 0 10").told(), ("plus", ("number", 0), ("number", 10)))

    def test_figures_that_python_alone_would_take(self):
        for text in ("+1", "-1", "-0", "1_0", "1.0", "1e3", "0x1", "1.", "--1"):
            self.assert_refused(text)

    def test_names_at_their_edges(self):
        for text in ("a", "z", "m", "abcdef", "zzzzzz", "azazaz"):
            self.assertEqual(read_expr(text).told(), ("box", text))
        for text in ("abcdefg", "aaaaaaaaaaaa", "A", "aB", "Plus", "a1", "1a", "a_b", "a-b", "_", "~", "a.", "`a"):
            self.assert_refused(text)

    def test_names_that_begin_with_a_word_of_the_language(self):
        for word in LANGUAGE:
            for name in (word + "s", word + "x"):
                self.assertEqual(read_expr("plus 1 " + name).told()[2], ("box", name))
        for name in ("el", "i", "fu", "mai", "cel", "xcell", "aplus", "isless"):
            self.assertEqual(read_expr(name).told(), ("box", name))

    def test_words_of_the_language_are_no_names(self):
        self.assertEqual(len(LANGUAGE), 22)
        for word in LANGUAGE:
            self.assert_refused(word)
            self.assert_refused("cell " + word)
            self.assert_refused("plus 1 " + word)
        for word in LANGUAGE[:14]:
            self.assert_refused(word + " 1")
            self.assert_refused(word + " 1 2")
            self.assert_refused("plus " + word + " 1")

    def test_a_word_too_few_or_too_many(self):
        for text in ("cell", "plus", "plus 1", "plus plus 1 2", "plus 1 cell", "cell plus 1"):
            self.assert_refused(text)
        for text in ("1 2", "a b", "a 1", "cell 1 2", "plus 1 2 3", "plus 1 2 plus", "plus 1 2 cell 3", "1 plus 2"):
            self.assert_refused(text)

    def test_blanks_and_line_ends(self):
        for text in ("", " ", "  ", " a", "a ", "  a", "plus 1  2", "plus  1 2", " plus 1 2", "plus 1 2 ",
                     "cell  1", "\n", "a\n", "\na", "1\n", "plus 1\n2", "plus 1 \n2", "plus\n1 2", "cell 1\n"):
            self.assert_refused(text)

    def test_signs_that_no_word_has(self):
        for sign in [chr(code) for code in range(33, 127)]:
            if not sign.isdigit() and not sign.islower():
                self.assert_refused(sign)
                self.assert_refused("a" + sign)
                self.assert_refused("cell 1" + sign)
        for text in ("(1)", "plus(1 2)", "plus,1,2", "1+2", "cell[1]"):
            self.assert_refused(text)

    def test_what_is_no_text(self):
        for thing in (None, 0, 5, -1, True, False, 10 ** 39, [], ["a"], ("box", "a"), {}, {"a": 1}, b"a",
                      Number(1), Box("a"), read_expr):
            self.assert_refused(thing)

    def test_every_short_text_of_some_words(self):
        arity = {"cell": 1, "plus": 2, "over": 2, "0": 0, "12": 0, "a": 0}
        some = ("cell", "plus", "over", "0", "12", "a", "", "if")
        for count in range(1, 5):
            for words in itertools.product(some, repeat=count):
                text = " ".join(words)
                if is_complete(words, arity):
                    self.assertEqual(read_expr(text).words(), text)
                else:
                    self.assertRaises(NoProgram, read_expr, text)


def is_complete(words, arity):
    """Whether just these words are one expression, asked by counting what still lacks."""
    lacking = 1
    for word in words:
        if lacking == 0 or word not in arity:
            return False
        lacking += arity[word] - 1
    return lacking == 0


class BoundsTest(RefusedCase):
    def balanced(self, depth, leaf="a"):
        if depth == 1:
            return leaf
        side = self.balanced(depth - 1, leaf)
        return "plus " + side + " " + side

    def test_fifteen_parts_and_sixteen(self):
        fifteen = self.balanced(4)
        self.assertEqual(len(fifteen.split(" ")), 15)
        self.assert_read(fifteen)
        words = fifteen.split(" ")
        for place in range(15):
            self.assert_refused(" ".join(words[:place] + ["cell"] + words[place:]))
            self.assert_refused(" ".join(words[:place] + ["less", "1"] + words[place:]))

    def test_parts_are_counted_whatever_they_are(self):
        for text in ("plus cell cell a plus plus 1 2 plus cell b less cell c 4",
                     "same times cell a minus b c over rest 1 2 less 3 cell d"):
            words = text.split(" ")
            self.assertEqual(len(words), 15)
            self.assert_read(text)
            self.assert_refused(" ".join(words[:-1] + ["cell", words[-1]]))

    def test_sixteen_and_more_that_are_not_deep(self):
        # Seventeen parts, five within one another.
        self.assert_refused("plus plus plus plus 1 2 3 plus 4 5 plus plus 6 7 plus 8 9")
        self.assert_refused(self.balanced(5))
        self.assert_refused(self.balanced(6))

    def test_six_within_one_another_and_seven(self):
        for leaf in ("0", "a"):
            self.assert_read("cell " * 5 + leaf)
            self.assert_refused("cell " * 6 + leaf)
            self.assert_refused("cell " * 7 + leaf)

    def test_six_and_seven_by_the_left_and_by_the_right(self):
        self.assert_read("plus " * 5 + " ".join("123456"))
        self.assert_refused("plus " * 6 + " ".join("1234567"))
        self.assert_read("plus 1 plus 2 plus 3 plus 4 plus 5 6")
        self.assert_refused("plus 1 plus 2 plus 3 plus 4 plus 5 plus 6 7")
        self.assert_read("plus 1 " + "cell " * 4 + "a")
        self.assert_refused("plus 1 " + "cell " * 5 + "a")
        self.assert_read("plus " + "cell " * 4 + "a 1")
        self.assert_refused("plus " + "cell " * 5 + "a 1")
        self.assert_read("plus " + "cell " * 4 + "a " + "cell " * 4 + "b")
        self.assert_refused("plus " + "cell " * 4 + "a " + "cell " * 5 + "b")

    def test_texts_far_beyond_the_bounds(self):
        for word in ("cell ", "plus "):
            self.assert_refused(word * 20000 + "1")
        self.assert_refused("plus " * 20000 + "1 " * 20000 + "1")
        self.assert_refused("a " * 20000 + "a")
        self.assert_refused("a" * 100000)


class ReckonTest(unittest.TestCase):
    def assert_reckoned(self, text, value, held=None):
        with self.subTest(text=text):
            outcome = reckoned(text, held)
            self.assertEqual(outcome, value)
            if value is not None:
                self.assertIs(type(outcome), int)

    def test_numbers_boxes_cells(self):
        held = {("box", "a"): 7, ("cell", 7): 12, ("cell", 12): 999999, ("box", "b"): 999999}
        for text, value in (("0", 0), ("999999", 999999), ("a", 7), ("b", 999999), ("c", 0), ("cell 7", 12),
                            ("cell a", 12), ("cell cell a", 999999), ("cell 8", 0)):
            self.assert_reckoned(text, value, held)

    def test_a_number_looks_at_nothing(self):
        self.assertEqual(looks_of("5"), (5, []))
        self.assertEqual(looks_of("plus 5 6"), (11, []))

    def test_sums_differences_products(self):
        for text, value in (
                ("plus 2 3", 5), ("plus 0 0", 0), ("plus 999998 1", 999999), ("plus 999999 1", 0),
                ("plus 1 999999", 0), ("plus 999999 999999", 999998),
                ("minus 5 3", 2), ("minus 5 5", 0), ("minus 0 1", 999999), ("minus 3 5", 999998),
                ("minus 0 999999", 1), ("minus 999999 0", 999999),
                ("times 6 7", 42), ("times 0 9", 0), ("times 9 0", 0), ("times 1000 1000", 0),
                ("times 999 1001", 999999), ("times 999999 999999", 1), ("times 999999 2", 999998),
                ("times 1234 5678", 6652)):
            self.assert_reckoned(text, value)

    def test_each_step_is_brought_to_a_value(self):
        self.assert_reckoned("over plus 999999 2 1", 1)
        self.assert_reckoned("over minus 0 1 2", 499999)
        self.assert_reckoned("rest times 1001 1000 7", 1000 % 7)
        self.assert_reckoned("less minus 0 1 5", 0)
        self.assert_reckoned("same minus 0 1 999999", 1)
        self.assert_reckoned("over 1 plus 999999 1", None)

    def test_a_cell_is_looked_at_by_a_value(self):
        self.assertEqual(looks_of("cell minus 0 1"), (0, [("cell", 999999)]))
        self.assertEqual(looks_of("cell plus 999999 1", {("cell", 0): 4}), (4, [("cell", 0)]))

    def test_over_and_rest(self):
        for text, value in (
                ("over 7 2", 3), ("rest 7 2", 1), ("over 2 7", 0), ("rest 2 7", 2), ("over 0 5", 0), ("rest 0 5", 0),
                ("over 6 3", 2), ("rest 6 3", 0), ("over 999999 1", 999999), ("rest 999999 1", 0),
                ("over 999999 999999", 1), ("rest 999998 999999", 999998), ("over 999999 1000", 999),
                ("rest 999999 1000", 999)):
            self.assert_reckoned(text, value)

    def test_over_and_rest_by_nought_fall(self):
        for text in ("over 1 0", "rest 1 0", "over 0 0", "rest 0 0", "over 999999 0", "rest 7 a", "over 7 cell 3",
                     "over 5 minus 2 2"):
            self.assert_reckoned(text, None)

    def test_less_and_same(self):
        for text, value in (
                ("less 1 2", 1), ("less 2 1", 0), ("less 2 2", 0), ("less 0 999999", 1), ("less 999999 0", 0),
                ("less 9 10", 1), ("same 1 1", 1), ("same 0 0", 1), ("same 1 2", 0), ("same 999999 0", 0),
                ("same 300 300", 1), ("same 999999 999999", 1)):
            self.assert_reckoned(text, value)

    def test_against_python_over_many_values(self):
        values = (0, 1, 2, 3, 7, 10, 999, 1000, 1001, 500000, 999998, 999999)
        for left, right in itertools.product(values, repeat=2):
            wanted = {
                "plus": (left + right) % 10 ** 6, "minus": (left - right) % 10 ** 6,
                "times": (left * right) % 10 ** 6, "over": left // right if right else None,
                "rest": left % right if right else None, "less": int(left < right), "same": int(left == right),
            }
            for word in TWO_WORDS:
                made = Two(word, Number(left), Number(right))
                self.assertEqual(made.reckon(lambda place: 0), wanted[word], (word, left, right))

    def test_looks_go_from_left_to_right(self):
        held = {("box", "i"): 4, ("cell", 4): 9, ("box", "a"): 1, ("box", "b"): 2}
        outcome, looks = looks_of("plus a times b cell i", held)
        self.assertEqual(outcome, 19)
        self.assertEqual(looks, [("box", "a"), ("box", "b"), ("box", "i"), ("cell", 4)])
        outcome, looks = looks_of("plus cell i minus b a", held)
        self.assertEqual(looks, [("box", "i"), ("cell", 4), ("box", "b"), ("box", "a")])
        for word in TWO_WORDS:
            self.assertEqual(looks_of(word + " b a", held)[1], [("box", "b"), ("box", "a")])

    def test_a_look_is_handed_one_tuple(self):
        for place in looks_of("plus a cell 3")[1]:
            self.assertIs(type(place), tuple)
            self.assertEqual(len(place), 2)

    def test_both_are_reckoned_whatever_the_left_one_is(self):
        for held in ({}, {("box", "a"): 1}, {("box", "a"): 999999}):
            for word in TWO_WORDS:
                self.assertEqual(looks_of(word + " a b", held)[1], [("box", "a"), ("box", "b")])
                self.assertEqual(looks_of(word + " 0 b", held)[1], [("box", "b")])
        self.assertEqual(looks_of("times 0 over 1 a"), (None, [("box", "a")]))
        self.assertEqual(looks_of("less 5 over 1 0"), (None, []))

    def test_what_stands_twice_is_looked_at_twice(self):
        held = {("box", "a"): 2, ("cell", 2): 5}
        self.assertEqual(looks_of("plus a a", held), (4, [("box", "a")] * 2))
        self.assertEqual(looks_of("times cell 2 cell 2", held), (25, [("cell", 2)] * 2))
        self.assertEqual(looks_of("same cell a cell a", held), (1, [("box", "a"), ("cell", 2)] * 2))
        same = Box("a")
        holder = Holder(held)
        Two("plus", same, same).reckon(holder.look)
        self.assertEqual(holder.looks, [("box", "a")] * 2)

    def test_each_look_counts_by_itself(self):
        answers = [3, 10]
        self.assertEqual(read_expr("minus a a").reckon(lambda place: answers.pop()), 7)

    def test_nothing_behind_a_fall_is_looked_at(self):
        for word in TWO_WORDS:
            self.assertEqual(looks_of(word + " over a b c"), (None, [("box", "a"), ("box", "b")]))
            self.assertEqual(looks_of(word + " c rest a b"), (None, [("box", "c"), ("box", "a"), ("box", "b")]))
        self.assertEqual(looks_of("cell over a 0"), (None, [("box", "a")]))
        self.assertEqual(looks_of("plus cell rest a 0 b"), (None, [("box", "a")]))
        self.assertEqual(looks_of("plus plus over 1 0 a plus b c"), (None, []))
        self.assertEqual(looks_of("plus a plus over 1 0 plus b c"), (None, [("box", "a")]))

    def test_a_fall_within_falls_the_whole(self):
        for word in TWO_WORDS:
            for text in (word + " over 1 0 1", word + " 1 over 1 0", word + " 0 cell rest 1 0",
                         "cell " + word + " rest 0 0 0"):
                self.assertIsNone(reckoned(text))

    def test_nought_is_no_fall(self):
        self.assertEqual(looks_of("plus minus a a b", {("box", "b"): 3}), (3, [("box", "a")] * 2 + [("box", "b")]))
        self.assertEqual(looks_of("cell less 1 0", {("cell", 0): 6}), (6, [("cell", 0)]))


class OwnTest(unittest.TestCase):
    """Nothing handed in is changed or kept; asked again, the same is told [0.3]."""

    def test_asked_again(self):
        read = read_expr("plus a cell over 9 b")
        held = {("box", "a"): 1, ("box", "b"): 2, ("cell", 4): 5}
        for turn in range(3):
            holder = Holder(held)
            self.assertEqual(read.reckon(holder.look), 6)
            self.assertEqual(holder.looks, [("box", "a"), ("box", "b"), ("cell", 4)])
            self.assertEqual(read.words(), "plus a cell over 9 b")
            self.assertEqual(read.told(), read_expr("plus a cell over 9 b").told())

    def test_nothing_is_kept_of_what_was_looked_at(self):
        read = read_expr("plus a cell b")
        self.assertEqual(read.reckon(lambda place: 1), 2)
        self.assertEqual(read.reckon(lambda place: 4), 8)
        self.assertIsNone(read_expr("over 1 a").reckon(lambda place: 0))
        again = read_expr("over 1 a")
        self.assertIsNone(again.reckon(lambda place: 0))
        self.assertEqual(again.reckon(lambda place: 1), 1)

    def test_what_is_handed_in_is_not_changed(self):
        left, right = Box("a"), Cell(Number(2))
        made = Cell(Two("plus", left, right))
        made.told(), made.words(), made.reckon(lambda place: 3)
        self.assertEqual(left.told(), ("box", "a"))
        self.assertEqual(right.told(), ("cell", ("number", 2)))

    def test_what_is_changed_behind_the_call_changes_nothing(self):
        left, right, inner = Box("a"), Number(2), Box("i")
        made = Two("plus", left, Two("times", right, Cell(inner)))
        left.name = "b"
        right.value = 5
        inner.name = "j"
        self.assertEqual(made.words(), "plus a times 2 cell i")
        self.assertEqual(
            made.told(), ("plus", ("box", "a"), ("times", ("number", 2), ("cell", ("box", "i")))))
        self.assertEqual(made.reckon({("box", "a"): 1, ("box", "i"): 6, ("cell", 6): 4}.get), 9)

    def test_either_side_may_be_changed_behind_the_call(self):
        left, right = Box("a"), Box("b")
        made = Two("minus", left, right)
        right.name = "c"
        self.assertEqual(made.told(), ("minus", ("box", "a"), ("box", "b")))
        left.name = "d"
        self.assertEqual(made.words(), "minus a b")

    def test_two_readings_of_one_text_are_apart(self):
        one, other = read_expr("a"), read_expr("a")
        one.name = "b"
        self.assertEqual(other.told(), ("box", "a"))
        self.assertEqual(read_expr("a").told(), ("box", "a"))

    def test_a_refusal_changes_nothing(self):
        for turn in range(2):
            with self.assertRaises(NoProgram):
                read_expr("plus 1")
            self.assertEqual(read_expr("plus 1 2").told(), ("plus", ("number", 1), ("number", 2)))


if __name__ == "__main__":
    unittest.main()
