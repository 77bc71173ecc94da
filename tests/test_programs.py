"""Programs: read, told by lines and rows, a line put otherwise, and what is refused [2.1 to 2.4, 0.3]."""

import itertools
import re
import unittest

from hadbeen import errors
from hadbeen.errors import NoChange, NoProgram
from hadbeen.programs import Program, read_program

LANGUAGE = (
    "skip set put ask draw tell if else end while call fun main give "
    "cell plus minus times over rest less same"
).split()
FIFTEEN = "plus plus plus 1 2 plus 3 4 plus plus 5 6 plus 7 8"
SIXTEEN = "plus plus plus cell 1 2 plus 3 4 plus plus 5 6 plus 7 8"
DEEP = "cell " * 5 + "a"
DEEPER = "cell " * 6 + "a"
NO_EXPRESSIONS = ("", "01", "1000000", "-1", "plus 1", "1 2", "A", "if", SIXTEEN, DEEPER)
# A program with every kind of row, and what each of its lines is told as.
ALL_KINDS = (
    ("fun add a b", None),
    ("if less a b", ("if", ("less", ("box", "a"), ("box", "b")))),
    ("while 0", ("while", ("number", 0))),
    ("end", None),
    ("else", None),
    ("call x add b a", ("call", "x", "add", ("box", "b"), ("box", "a"))),
    ("call y none", ("call", "y", "none")),
    ("end", None),
    ("give plus a b", ("give", ("plus", ("box", "a"), ("box", "b")))),
    ("fun none", None),
    ("give 7", ("give", ("number", 7))),
    ("main", None),
    ("skip", ("skip",)),
    ("set a 5", ("set", "a", ("number", 5))),
    ("put a cell 2", ("put", ("box", "a"), ("cell", ("number", 2)))),
    ("ask b sky a", ("ask", "b", "sky", ("box", "a"))),
    ("draw b lot", ("draw", "b", "lot")),
    ("tell plus a b", ("tell", ("plus", ("box", "a"), ("box", "b")))),
    ("while less i 3", ("while", ("less", ("box", "i"), ("number", 3)))),
    ("if i", ("if", ("box", "i"))),
    ("skip", ("skip",)),
    ("else", None),
    ("end", None),
    ("set i plus i 1", ("set", "i", ("plus", ("box", "i"), ("number", 1)))),
    ("end", None),
    ("call c add 1 a", ("call", "c", "add", ("number", 1), ("box", "a"))),
)


def text_of(*lines):
    return "\n".join(lines)


ALL_TEXT = text_of(*[line for line, told in ALL_KINDS])


def nested(depth, kinds=("if", "while")):
    """The lines of so many choices and loops within one another, by turns."""
    lines = []
    for turn in reversed(range(depth)):
        if kinds[turn % len(kinds)] == "if":
            lines = ["if 1"] + lines + ["else", "end"]
        else:
            lines = ["while 0"] + lines + ["end"]
    return lines


class ProgramCase(unittest.TestCase):
    def assert_read(self, *lines):
        with self.subTest(lines=lines):
            program = read_program(text_of(*lines))
            self.assertEqual(program.text(), text_of(*lines))
            self.assertEqual(program.lines(), list(lines))
            return program

    def assert_no_program(self, thing):
        with self.subTest(thing=thing):
            with self.assertRaises(errors.HadError) as caught:
                read_program(thing)
            self.assertIs(type(caught.exception), NoProgram)

    def assert_not_read(self, *lines):
        self.assert_no_program(text_of(*lines))

    def assert_no_change(self, program, number, line):
        with self.subTest(number=number, line=line):
            text = program.text()
            with self.assertRaises(errors.HadError) as caught:
                program.with_line(number, line)
            self.assertIs(type(caught.exception), NoChange)
            self.assertEqual(program.text(), text)


class ToldTest(ProgramCase):
    def test_rows_are_told_by_the_number_of_their_line(self):
        program = read_program(ALL_TEXT)
        self.assertIsInstance(program, Program)
        for number, (line, told) in enumerate(ALL_KINDS):
            with self.subTest(line):
                self.assertEqual(program.row(number), told)
                if told is not None:
                    self.assertIs(type(program.row(number)), tuple)

    def test_text_and_lines(self):
        program = read_program(ALL_TEXT)
        self.assertEqual(program.text(), ALL_TEXT)
        self.assertEqual(program.lines(), [line for line, told in ALL_KINDS])
        self.assertIs(type(program.lines()), list)

    def test_lines_that_are_not_there(self):
        for text in ("main", "main\nskip", ALL_TEXT):
            program = read_program(text)
            count = len(program.lines())
            for number in (-1, -count, count, count + 1, 400, 10 ** 39, -10 ** 39):
                self.assertIsNone(program.row(number), number)
        self.assertEqual(read_program("main\nskip").row(1), ("skip",))

    def test_a_truth_is_no_number_of_a_line(self):
        self.assertIsNone(read_program("main\nskip").row(True))

    def test_what_is_told_is_read_again(self):
        again = read_program(read_program(ALL_TEXT).text())
        self.assertEqual(again.text(), ALL_TEXT)
        self.assertEqual([again.row(number) for number in range(len(ALL_KINDS))], [told for line, told in ALL_KINDS])

    def test_told_lists_are_the_asker_s_own(self):
        program = read_program(ALL_TEXT)
        told = program.lines()
        told[0] = "main"
        told.append("skip")
        self.assertEqual(program.lines(), [line for line, told in ALL_KINDS])
        self.assertEqual(program.text(), ALL_TEXT)
        self.assertIsNot(program.lines(), program.lines())

    def test_asked_again(self):
        program = read_program(ALL_TEXT)
        for turn in range(3):
            self.assertEqual(program.row(1), ALL_KINDS[1][1])
            self.assertEqual(program.text(), ALL_TEXT)


class FormsTest(ProgramCase):
    def test_main_without_rows(self):
        self.assert_read("main")
        self.assert_read("fun f", "give 0", "main")

    def test_functions_from_none_to_four(self):
        lines = []
        for name in ("a", "b", "c", "d"):
            self.assert_read(*lines, "main", "skip")
            lines += ["fun " + name, "skip", "give 1"]
        self.assert_read(*lines, "main", "skip")
        self.assert_read(*lines, "main")
        self.assert_not_read(*lines, "fun e", "give 1", "main")
        self.assert_not_read(*lines, "fun e", "skip", "give 1", "main", "skip")

    def test_parameters_from_none_to_three(self):
        for head in ("fun f", "fun f a", "fun f a b", "fun f a b c"):
            self.assert_read(head, "give 1", "main")
        for head in ("fun f a b c d", "fun f a b c d e", "fun f a a", "fun f a b a", "fun f b a a", "fun f a a b"):
            self.assert_not_read(head, "give 1", "main")

    def test_one_name_for_unlike_things(self):
        self.assert_read("fun a a", "give a", "main", "ask a a 1", "draw a a", "set a 1", "call a a a")
        self.assert_read("fun f f g h", "give f", "fun g g f", "give g", "main")

    def test_functions_of_one_name(self):
        self.assert_not_read("fun f", "give 1", "fun f", "give 1", "main")
        self.assert_not_read("fun f", "give 1", "fun g", "give 1", "fun f a", "give 1", "main")

    def test_blocks_without_rows(self):
        self.assert_read("main", "if 1", "else", "end")
        self.assert_read("main", "while 1", "end")
        self.assert_read("main", "if 1", "skip", "else", "end", "if 1", "else", "skip", "end")
        self.assert_read("fun f", "if 1", "else", "end", "while 1", "end", "give 1", "main")

    def test_lines_up_to_sixty(self):
        for count in (3, 59, 60):
            self.assert_read("main", *["skip"] * (count - 1))
            self.assert_read("fun f", *["skip"] * (count - 3), "give 1", "main")
        for count in (61, 62, 1000):
            self.assert_not_read("main", *["skip"] * (count - 1))
            self.assert_not_read("fun f", *["skip"] * (count - 3), "give 1", "main")
        self.assert_read("main", *["if 1", "else", "end"] * 19, "skip", "skip")
        self.assert_not_read("main", *["if 1", "else", "end"] * 20)

    def test_five_within_one_another(self):
        for kinds in (("if",), ("while",), ("if", "while"), ("while", "if"), ("if", "if", "while")):
            for depth in range(6):
                self.assert_read("main", *nested(depth, kinds))
                self.assert_read("fun f", *nested(depth, kinds), "give 1", "main", *nested(depth, kinds))
            for depth in (6, 7):
                self.assert_not_read("main", *nested(depth, kinds))
                self.assert_not_read("fun f", *nested(depth, kinds), "give 1", "main")

    def test_depth_behind_an_else(self):
        lines = []
        for depth in range(1, 8):
            lines = ["if 1", "else"] + lines + ["end"]
            if depth <= 5:
                self.assert_read("main", *lines)
            else:
                self.assert_not_read("main", *lines)

    def test_blocks_side_by_side_are_not_within_one_another(self):
        self.assert_read("main", *nested(5), *nested(5), *nested(3))
        self.assert_read("main", "if 1", *nested(4), "else", *nested(4), "end")
        self.assert_not_read("main", "if 1", *nested(4), "else", *nested(5), "end")
        self.assert_not_read("main", "while 1", *nested(2), *nested(5), "end")

    def test_a_call_begins_no_depth(self):
        self.assert_read("fun f", *nested(5), "call a f", "give 1", "main", *nested(5), "call a f")

    def test_texts_far_beyond_the_bounds(self):
        self.assert_not_read("main", *["if 1"] * 59)
        self.assert_not_read("main", *["while 1"] * 50000)
        self.assert_not_read(*["fun f"] * 50000)
        self.assert_no_program("main" * 100000)
        self.assert_not_read("main", "call a f" + " 1" * 50000)
        self.assert_not_read("fun f" + " a" * 50000, "give 1", "main")

    def test_every_short_text_of_some_lines(self):
        some = {"fun f": "F", "main": "M", "skip": "r", "if 1": "I", "else": "L", "end": "N", "while 1": "W",
                "give 1": "G"}
        for count in range(1, 6):
            for lines in itertools.product(some, repeat=count):
                text = text_of(*lines)
                if is_in_form("".join(some[line] for line in lines)):
                    self.assertEqual(read_program(text).text(), text)
                else:
                    self.assertRaises(NoProgram, read_program, text)


def is_in_form(letters):
    """Whether these lines stand as a program's do, asked by putting a row for each block till none is left."""
    ahead = None
    while letters != ahead:
        ahead = letters
        letters = re.sub("Ir?Lr?N|Wr?N|rr", "r", letters)
    return re.fullmatch("(Fr?G)?Mr?", letters) is not None


class CallsTest(ProgramCase):
    def test_ahead_of_behind_and_within_the_function(self):
        self.assert_read(
            "fun f a", "call a g", "call a f a", "give a", "fun g", "call a f 1", "call b g", "give b",
            "main", "call a f 1", "call b g")

    def test_within_blocks(self):
        self.assert_read("fun f", "give 1", "main", "if 1", "call a f", "else", "while 1", "call a f", "end", "end")

    def test_as_many_expressions_as_parameters(self):
        for many, head in enumerate(("fun f", "fun f a", "fun f a b", "fun f a b c")):
            for given in range(6):
                for expr in ("1", "x", "plus 1 cell x"):
                    call = "call x f" + (" " + expr) * given
                    for lines in ((head, "give 1", "main", call), (head, call, "give 1", "main"),
                                  (head, "give 1", "fun g", call, "give 1", "main"),
                                  ("fun g", call, "give 1", head, "give 1", "main"),
                                  (head, "give 1", "main", "while 1", call, "end")):
                        if given == many:
                            self.assert_read(*lines)
                        else:
                            self.assert_not_read(*lines)

    def test_functions_that_are_not_there(self):
        self.assert_not_read("main", "call a f")
        self.assert_not_read("fun g", "give 1", "main", "call a f")
        self.assert_not_read("fun g f", "give 1", "main", "set f 1", "call f f")
        self.assert_not_read("fun g", "call a f", "give 1", "main")
        self.assert_not_read("main", "if 0", "call a f", "else", "end")
        for name in ("main", "fun", "g1", "F", "call"):
            self.assert_not_read("fun f", "give 1", "main", "call a " + name)


class ExpressionsTest(ProgramCase):
    PLACES = (
        ("fun f", "give {}", "main"),
        ("main", "set a {}"), ("main", "put {} 1"), ("main", "put 1 {}"), ("main", "ask a w {}"), ("main", "tell {}"),
        ("main", "if {}", "else", "end"), ("main", "while {}", "end"),
        ("fun f a", "give 1", "main", "call a f {}"),
        ("fun f a b c", "give 1", "main", "call a f {} 1 1"),
        ("fun f a b c", "give 1", "main", "call a f 1 {} 1"),
        ("fun f a b c", "give 1", "main", "call a f 1 1 {}"),
        ("fun f", "set a {}", "give 1", "main"),
    )

    def test_at_their_bounds_wherever_one_may_stand(self):
        for lines in self.PLACES:
            for expr in ("0", "999999", "a", "zzzzzz", FIFTEEN, DEEP):
                self.assert_read(*[line.replace("{}", expr) for line in lines])

    def test_beyond_them(self):
        for lines in self.PLACES:
            for expr in NO_EXPRESSIONS:
                self.assert_not_read(*[line.replace("{}", expr) for line in lines])


class RefusedTest(ProgramCase):
    def test_no_main(self):
        self.assert_no_program("")
        self.assert_no_program("skip")
        self.assert_not_read("fun f", "give 1")
        self.assert_not_read("fun f", "give 1", "skip")
        self.assert_not_read("main f")
        self.assert_not_read("main", "main")
        self.assert_not_read("main", "skip", "main", "skip")
        self.assert_not_read("Main")

    def test_a_missing_end_or_else(self):
        self.assert_not_read("main", "if 1", "else")
        self.assert_not_read("main", "while 1")
        self.assert_not_read("main", "while 1", "skip")
        self.assert_not_read("main", "if 1", "end")
        self.assert_not_read("main", "if 1", "skip", "skip", "end")
        self.assert_not_read("main", "if 1")
        self.assert_not_read("main", "while 1", "if 1", "else", "end")
        self.assert_not_read("fun f", "while 1", "give 1", "main")
        self.assert_not_read("fun f", "if 1", "else", "give 1", "end", "main")

    def test_an_else_or_an_end_too_many(self):
        self.assert_not_read("main", "if 1", "else", "else", "end")
        self.assert_not_read("main", "else")
        self.assert_not_read("main", "end")
        self.assert_not_read("main", "while 1", "else", "end")
        self.assert_not_read("main", "if 1", "else", "end", "end")
        self.assert_not_read("main", "if 1", "else", "end", "else", "end")
        self.assert_not_read("fun f", "end", "give 1", "main")
        self.assert_not_read("main", "skip", "end", "skip")

    def test_a_missing_give_and_a_give_elsewhere(self):
        self.assert_not_read("fun f", "main")
        self.assert_not_read("fun f", "skip", "main")
        self.assert_not_read("fun f", "fun g", "give 1", "main")
        self.assert_not_read("fun f", "give 1", "give 1", "main")
        self.assert_not_read("fun f", "give 1", "skip", "main")
        self.assert_not_read("fun f", "give 1", "skip", "give 1", "main")
        self.assert_not_read("main", "give 1")
        self.assert_not_read("main", "skip", "give 1", "skip")
        self.assert_not_read("give 1", "main")
        self.assert_not_read("fun f", "if 1", "give 1", "else", "give 1", "end", "main")
        self.assert_not_read("fun f", "while 1", "give 1", "end", "give 1", "main")

    def test_rows_and_functions_out_of_their_place(self):
        self.assert_not_read("skip", "main")
        self.assert_not_read("fun f", "give 1", "skip", "main")
        self.assert_not_read("main", "fun f", "give 1")
        self.assert_not_read("main", "skip", "fun f", "give 1")
        self.assert_not_read("fun f", "fun g", "give 1", "give 1", "main")
        self.assert_not_read("main", "if 1", "fun f", "give 1", "else", "end")
        self.assert_not_read("fun f", "main", "give 1")

    def test_words_of_the_language_are_no_names(self):
        for word in LANGUAGE + ["A", "abcdefg", "a1", "1", "a_b", "-"]:
            for head in ("fun {}", "fun {} a", "fun f {}", "fun f a {}", "fun f a b {}"):
                self.assert_not_read(head.replace("{}", word), "give 1", "main")
            for row in ("set {} 1", "ask {} w 1", "ask a {} 1", "draw {} w", "draw a {}", "call {} f", "call a {}"):
                self.assert_not_read("fun f", "give 1", "main", row.replace("{}", word))
        self.assert_not_read("fun", "give 1", "main")

    def test_words_too_few_and_too_many(self):
        for row in ("set", "set a", "put 1", "ask a w", "ask a 1", "draw a", "tell", "call a", "call", "skip 1",
                    "set a 1 2", "put 1 2 3", "ask a w 1 2", "draw a w 1", "tell 1 2", "skips", "SKIP", "a", "1",
                    "set 1 a", "tell a = 1", "# skip", "skip;"):
            self.assert_not_read("main", row)
            self.assert_not_read("fun f", row, "give 1", "main")
        for row in ("if", "if 1 2", "while", "while 1 2", "if a b"):
            self.assert_not_read("main", row, "end")
            self.assert_not_read("main", row, "else", "end")
        for line in ("else 1", "else skip", "elses", "Else"):
            self.assert_not_read("main", "if 1", line, "end")
        for line in ("end 1", "end end", "ends", "END"):
            self.assert_not_read("main", "while 1", line)
        for line in ("give", "give 1 2", "gives 1"):
            self.assert_not_read("fun f", line, "main")
        for line in ("main 1", "main skip", "main main"):
            self.assert_not_read(line)
            self.assert_not_read(line, "skip")

    def test_blanks_ahead_behind_or_twice(self):
        lines = ALL_TEXT.split("\n")
        for number, line in enumerate(lines):
            words = line.split(" ")
            twice = [" ".join(words[:place]) + "  " + " ".join(words[place:]) for place in range(1, len(words))]
            for blank in [" " + line, line + " ", "  " + line] + twice:
                self.assert_not_read(*lines[:number], blank, *lines[number + 1:])

    def test_line_ends_and_lines_without_signs(self):
        for text in ("main\n", "\nmain", "main\nskip\n", "main\n\nskip", "main\nskip\n\n", "\n", "\n\n", "main\n ",
                     "main\r", "main\r\nskip", "main\rskip", "main\tskip", "main\x0bskip", "main\x0cskip",
                     "main\u2028skip", "fun f\n\ngive 1\nmain", "fun f\ngive 1\n\nmain", "main\nwhile 1\n\nend",
                     "main skip", "main;skip", "fun f give 1\nmain", "main\nif 1 else end"):
            self.assert_no_program(text)
        for number in range(len(ALL_KINDS) + 1):
            lines = ALL_TEXT.split("\n")
            self.assert_not_read(*lines[:number], "", *lines[number:])

    def test_what_is_no_text(self):
        for thing in (None, 0, 5, True, False, [], ["main"], ("main",), {}, {"main": 1}, b"main", read_program,
                      read_program("main")):
            self.assert_no_program(thing)


class WithLineTest(ProgramCase):
    SIMPLE = ("skip", "set a 1", "put 1 2", "ask a w 1", "draw a w", "tell 1")
    BASE = text_of(
        "fun f a", "if a", "skip", "else", "call b g", "end", "give a", "fun g", "give 1",
        "main", "while 0", "set a 1", "end", "call a f 1", "tell a", "skip")

    def program(self):
        return read_program(self.BASE)

    def assert_put(self, number, line):
        with self.subTest(number=number, line=line):
            program = self.program()
            lines = self.BASE.split("\n")
            rows = [program.row(each) for each in range(len(lines))]
            put = program.with_line(number, line)
            lines[number] = line
            self.assertIsInstance(put, Program)
            self.assertEqual(put.text(), text_of(*lines))
            self.assertEqual(put.lines(), lines)
            wanted = read_program(text_of(*lines))
            for each in range(-1, len(lines) + 1):
                self.assertEqual(put.row(each), wanted.row(each))
            self.assertEqual(program.text(), self.BASE)
            self.assertEqual([program.row(each) for each in range(len(rows))], rows)
            return put

    def test_simple_rows_in_the_place_of_simple_rows(self):
        for number in (2, 11, 14, 15):
            for line in self.SIMPLE:
                self.assert_put(number, line)

    def test_each_of_the_other_shapes(self):
        self.assert_put(1, "if plus a 1")
        self.assert_put(10, "while cell 3")
        self.assert_put(6, "give plus a 1")
        self.assert_put(8, "give b")
        self.assert_put(13, "call c f cell a")
        self.assertEqual(self.assert_put(8, "give b").row(8), ("give", ("box", "b")))

    def test_a_call_of_another_function(self):
        self.assert_put(4, "call b f 1")
        self.assert_put(4, "call b g")
        self.assert_put(13, "call a g")
        for number in (4, 13):
            for line in ("call a f", "call a f 1 2", "call a f 1 2 3 4", "call a g 1", "call a h", "call a f 1 2 3",
                         "call a", "call"):
                self.assert_no_change(self.program(), number, line)

    def test_the_same_line(self):
        program = self.program()
        for number, line in enumerate(self.BASE.split("\n")):
            if program.row(number) is not None:
                self.assert_put(number, line)

    def test_one_line_behind_the_other(self):
        program = self.program().with_line(2, "tell 9").with_line(14, "tell 8").with_line(2, "tell 7")
        self.assertEqual(program.lines()[2], "tell 7")
        self.assertEqual(program.row(14), ("tell", ("number", 8)))
        self.assertEqual(self.program().with_line(14, "tell 8").with_line(2, "tell 7").text(), program.text())
        self.assertEqual(program.with_line(2, "skip").with_line(14, "tell a").text(), self.BASE)

    def test_no_other_shape(self):
        shapes = {
            "simple": self.SIMPLE, "if": ("if 1",), "while": ("while 1",), "call": ("call a g", "call a f 1"),
            "give": ("give 1",),
        }
        numbers = {"simple": (2, 11, 14, 15), "if": (1,), "while": (10,), "call": (4, 13), "give": (6, 8)}
        for here, there in itertools.permutations(shapes, 2):
            for number in numbers[here]:
                for line in shapes[there]:
                    self.assert_no_change(self.program(), number, line)

    def test_lines_that_are_no_rows(self):
        for number in (1, 2, 4, 6, 10, 13, 15):
            for line in ("else", "end", "main", "fun h", "", " ", "other", "a", "1", "Skip", "skip ", " skip",
                         "set  a 1", "give 1 ", "tell " + SIXTEEN, "set a " + DEEPER, "if " + SIXTEEN,
                         "while 01", "give 1000000", "call a f " + DEEPER, "set if 1"):
                self.assert_no_change(self.program(), number, line)

    def test_expressions_at_their_bounds(self):
        for expr in (FIFTEEN, DEEP, "999999"):
            for number, line in ((1, "if "), (2, "set a "), (6, "give "), (10, "while "), (13, "call a f "),
                                 (14, "tell "), (15, "put 1 ")):
                self.assert_put(number, line + expr)

    def test_lines_with_a_line_end(self):
        for line in ("skip\n", "\nskip", "skip\nskip", "tell 1\ntell 2", "\n", "set a 1\nskip", "skip\r"):
            for number in (2, 11, 14, 15):
                self.assert_no_change(self.program(), number, line)
        self.assert_no_change(self.program(), 1, "if 1\nelse\nend\nif 1")
        self.assert_no_change(self.program(), 10, "while 0\nend\nwhile 0")
        self.assert_no_change(self.program(), 6, "give 1\nfun h\ngive 1")
        self.assert_no_change(self.program(), 13, "call a g\ncall a g")

    def test_what_is_no_text(self):
        for thing in (None, 0, 1, True, [], ["skip"], ("skip",), {}, b"skip"):
            for number in (1, 2, 15, 0, 99):
                self.assert_no_change(self.program(), number, thing)

    def test_lines_that_have_no_row(self):
        for number in (0, 3, 5, 7, 9, 12):
            for line in ("skip", self.BASE.split("\n")[number], "else", "end", "main", "fun f a", "fun f b"):
                self.assert_no_change(self.program(), number, line)

    def test_numbers_that_are_none_of_a_line(self):
        for number in (-1, -2, -15, -16, 16, 17, 60, 10 ** 39, -10 ** 39):
            for line in ("skip", "tell 1", "if 1"):
                self.assert_no_change(self.program(), number, line)

    def test_what_is_no_whole_number(self):
        program = read_program("main\nskip")
        for number in (None, True, False, "1", (1,), [1], [], {}, (), "skip"):
            self.assert_no_change(program, number, "skip")
        self.assertEqual(program.with_line(1, "tell 1").text(), "main\ntell 1")

    def test_told_lists_of_both_are_the_asker_s_own(self):
        program = self.program()
        put = program.with_line(2, "tell 9")
        program.lines()[2] = "tell 5"
        put.lines()[2] = "tell 6"
        self.assertEqual(program.row(2), ("skip",))
        self.assertEqual(put.row(2), ("tell", ("number", 9)))
        self.assertEqual(put.lines()[2], "tell 9")


if __name__ == "__main__":
    unittest.main()
