"""Rows by themselves: how they are read and told, and their shapes [2.2, 2.4]."""

import unittest

from hadbeen import errors
from hadbeen.errors import NoProgram
from hadbeen.exprs import Box
from hadbeen.rows import Row, read_row

LANGUAGE = (
    "skip set put ask draw tell if else end while call fun main give "
    "cell plus minus times over rest less same"
).split()
ONE = ("number", 1)
PLUS = ("plus", ("box", "a"), ("cell", ("number", 2)))
TOLD = (
    ("skip", ("skip",)),
    ("set a 1", ("set", "a", ONE)),
    ("set a plus a cell 2", ("set", "a", PLUS)),
    ("put 1 plus a cell 2", ("put", ONE, PLUS)),
    ("put plus a cell 2 1", ("put", PLUS, ONE)),
    ("ask a w 1", ("ask", "a", "w", ONE)),
    ("ask a a plus a cell 2", ("ask", "a", "a", PLUS)),
    ("draw a w", ("draw", "a", "w")),
    ("draw abcdef uvwxyz", ("draw", "abcdef", "uvwxyz")),
    ("tell 1", ("tell", ONE)),
    ("if plus a cell 2", ("if", PLUS)),
    ("while a", ("while", ("box", "a"))),
    ("call a f", ("call", "a", "f")),
    ("call a f 1", ("call", "a", "f", ONE)),
    ("call f f 1 plus a cell 2", ("call", "f", "f", ONE, PLUS)),
    ("call a f 1 plus a cell 2 1", ("call", "a", "f", ONE, PLUS, ONE)),
    ("give 1", ("give", ONE)),
)


class RowCase(unittest.TestCase):
    def assert_refused(self, line):
        with self.subTest(line=line):
            with self.assertRaises(errors.HadError) as caught:
                read_row(line)
            self.assertIs(type(caught.exception), NoProgram)


class ToldTest(RowCase):
    def test_told(self):
        for line, told in TOLD:
            with self.subTest(line):
                self.assertEqual(read_row(line).told(), told)
                self.assertIs(type(read_row(line).told()), tuple)

    def test_asked_again(self):
        for line, told in TOLD:
            row = read_row(line)
            self.assertEqual(row.told(), row.told())
            self.assertEqual(read_row(line).told(), told)

    def test_shapes(self):
        shapes = {"if": "if", "while": "while", "call": "call", "give": "give"}
        for line, told in TOLD:
            with self.subTest(line):
                self.assertEqual(read_row(line).shape(), shapes.get(told[0], "simple"))

    def test_what_is_changed_behind_the_call_changes_nothing(self):
        names, exprs = ["a"], [Box("b")]
        row = Row("set", names, exprs)
        names.append("c")
        exprs[0].name = "d"
        exprs.append(Box("e"))
        self.assertEqual(row.told(), ("set", "a", ("box", "b")))


class RefusedTest(RowCase):
    def test_a_word_too_few(self):
        for line in ("set", "set a", "set a plus 1", "put", "put 1", "put plus 1 2", "ask", "ask a", "ask a w",
                     "draw", "draw a", "tell", "tell cell", "if", "while", "call", "call a", "call a f cell", "give"):
            self.assert_refused(line)

    def test_a_word_too_many(self):
        for line in ("skip 1", "skip skip", "set a 1 2", "put 1 2 3", "ask a w 1 2", "draw a w 1", "draw a w x",
                     "tell 1 2", "if a b", "while a b", "give a b", "call a f 1 2 3 4"):
            self.assert_refused(line)

    def test_lines_that_are_no_rows(self):
        for line in ("else", "end", "main", "fun f", "fun f a b", "cell 1", "plus 1 2", "a", "1", "Skip", "SET a 1",
                     "skips", "tell1", "other a 1"):
            self.assert_refused(line)

    def test_no_word_of_the_language_is_a_name(self):
        for word in LANGUAGE:
            for line in ("set {} 1", "ask {} w 1", "ask a {} 1", "draw {} w", "draw a {}", "call {} f", "call a {}"):
                self.assert_refused(line.replace("{}", word))

    def test_no_other_names(self):
        for name in ("abcdefg", "A", "a1", "1", "a_b", ""):
            for line in ("set {} 1", "ask {} w 1", "ask a {} 1", "draw {} w", "draw a {}", "call {} f", "call a {}"):
                self.assert_refused(line.replace("{}", name))

    def test_no_other_expressions(self):
        for expr in ("01", "1000000", "cell " * 6 + "a", "plus " * 6 + "1 " * 6 + "1", "if", "A", "+1"):
            for line in ("set a {}", "put {} 1", "put 1 {}", "ask a w {}", "tell {}", "if {}", "while {}",
                         "call a f {}", "call a f 1 {}", "give {}"):
                self.assert_refused(line.replace("{}", expr))

    def test_blanks_and_line_ends(self):
        for line in ("", " ", " skip", "skip ", "set  a 1", "set a  1", "set a 1 ", " set a 1", "draw a w ",
                     "skip\n", "\nskip", "set a 1\n", "set a\n1", "call a f ", "call a f\n", "tell 1\ntell 2"):
            self.assert_refused(line)

    def test_what_is_no_text(self):
        for thing in (None, 1, True, [], ["skip"], ("skip",), {}, b"skip"):
            self.assert_refused(thing)


class BoundsTest(RowCase):
    FIFTEEN = "plus plus plus 1 2 plus 3 4 plus plus 5 6 plus 7 8"

    def test_each_expression_has_its_own_fifteen_parts(self):
        self.assertEqual(len(self.FIFTEEN.split(" ")), 15)
        for line, count in (("put {} {}", 2), ("call a f {} {} {}", 3)):
            row = read_row(line.replace("{}", self.FIFTEEN))
            self.assertEqual(len(row.exprs), count)
            for expr in row.exprs:
                self.assertEqual(expr.words(), self.FIFTEEN)

    def test_none_has_sixteen(self):
        self.assert_refused("tell cell " + self.FIFTEEN)
        self.assert_refused("put 1 cell " + self.FIFTEEN)
        self.assert_refused("put cell " + self.FIFTEEN + " 1")

    def test_six_within_one_another(self):
        deep = "cell " * 5 + "a"
        self.assertEqual(read_row("put " + deep + " " + deep).exprs[1].words(), deep)


if __name__ == "__main__":
    unittest.main()
