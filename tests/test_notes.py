"""Books and changes as texts, written and read back, and texts that are none [11.1, 11.2, 0.3]."""

import unittest

from hadbeen import errors
from hadbeen.checker import check
from hadbeen.errors import NoText
from hadbeen.houses import House
from hadbeen.notes import book_text, change_text, read_book, read_change
from hadbeen.programs import read_program
from hadbeen.redo import had_been
from hadbeen.runs import run_of
from hadbeen.settings import Setting

LANGUAGE = (
    "skip set put ask draw tell if else end while call fun main give "
    "cell plus minus times over rest less same"
).split()
NO_TEXTS = (None, 0, 1, True, (), [], {}, ["done 3"], ("done 3",), [("done", (3,))], ("goes", (3,), True), 10 ** 39)
NO_NUMBERS = ("", "00", "01", "007", "+1", "-0", "-2", "-", "--1", "1000000", "9999999", "1" * 40, "a", "1a", "a1", "1,2",
              "1_0", "0x1", "1e1", "one", "None", "True", "(3,)", "1-", "1\n", "\n1", "1.")
NO_ADDRESSES = ("", "--", "-.", ".-", ".", "..", ".1", "1.", "1..2", "-1", "1.-1", "-.1", "1.-", "01", "1.00", "1.01",
                "1000000", "1.1000000", "a", "1.a", "+1", "()", "(1,)", "1,2", "1:2", "1/2", "none", "1.2.", "1\n")
NO_NAMES = ("", "A", "Ab", "a1", "1", "abcdefg", "a_b", "a.b", "-", "a-b", "a\n") + tuple(LANGUAGE)

BOOKS = {
    "": [],
    "done 3": [("done", (3,))],
    "done -": [("done", ())],
    "kept 3": [("kept", (3,), [])],
    "part - -1": [("part", (), [-1])],
    "part 11.0 -1 0 12": [("part", (11, 0), [-1, 0, 12])],
    "kept 3\ndone 4\npart 6.0.7 0 -1\ndone 8.10.9": [
        ("kept", (3,), []), ("done", (4,)), ("part", (6, 0, 7), [0, -1]), ("done", (8, 10, 9))],
    "kept 0 0": [("kept", (0,), [0])],
    "kept 999999.0.999999 999999 100000": [("kept", (999999, 0, 999999), [999999, 100000])],
    "done 3\ndone 3\ndone 3": [("done", (3,))] * 3,
}
CHANGES = {
    "start box - a 5": ("start", ("box", (), "a"), 5),
    "start box 3 a 0": ("start", ("box", (3,), "a"), 0),
    "start box 3.0.10 zzzzzz 999999": ("start", ("box", (3, 0, 10), "zzzzzz"), 999999),
    "start box - box 5": ("start", ("box", (), "box"), 5),
    "start cell 0 1": ("start", ("cell", 0), 1),
    "start cell 999999 10": ("start", ("cell", 999999), 10),
    "start world w 7 3": ("start", ("world", "w", 7), 3),
    "start world world 0 0": ("start", ("world", "world", 0), 0),
    "start drawn w 3": ("start", ("drawn", "w"), 3),
    "start drawn drawn 0": ("start", ("drawn", "drawn"), 0),
    "row 4 set a plus a 1": ("row", 4, "set a plus a 1"),
    "row 0 x": ("row", 0, "x"),
    "row 999999 -": ("row", 999999, "-"),
    "row 10 row 10 row": ("row", 10, "row 10 row"),
    "row 4  set a": ("row", 4, " set a"),
    "row 4 set a ": ("row", 4, "set a "),
    "row 4 set  a": ("row", 4, "set  a"),
    "row 4   set   a   ": ("row", 4, "  set   a   "),
    "row 4  ": ("row", 4, " "),
    "row 4    ": ("row", 4, "   "),
    "row 4 ~!\"#$%&'()*+,-./:;<=>?@[]^_`{|}\\": ("row", 4, "~!\"#$%&'()*+,-./:;<=>?@[]^_`{|}\\"),
    "goes 3 yes": ("goes", (3,), True),
    "goes 3.0 no": ("goes", (3, 0), False),
    "goes - free": ("goes", (), None),
    "goes 10.200.30 free": ("goes", (10, 200, 30), None),
    "goes - yes": ("goes", (), True),
}


class NotesCase(unittest.TestCase):
    def assert_no_text(self, asked, *texts):
        for text in texts:
            with self.subTest(asked=asked.__name__, text=text):
                with self.assertRaises(errors.HadError) as caught:
                    asked(text)
                self.assertIs(type(caught.exception), NoText)

    def assert_same_book(self, one, other):
        self.assertEqual(one, other)
        self.assertIs(type(one), list)
        for entry in one:
            self.assertIs(type(entry), tuple)
            self.assertEqual([type(part) for part in entry], [str, tuple, list][:len(entry)])
            for number in list(entry[1]) + (entry[2] if len(entry) == 3 else []):
                self.assertIs(type(number), int)

    def assert_same_change(self, one, other):
        self.assertEqual(one, other)
        self.assertEqual(repr(one), repr(other))
        self.assertIs(type(one), tuple)


class BooksTest(NotesCase):
    def test_written_and_read_back(self):
        for text, book in BOOKS.items():
            with self.subTest(text=text):
                self.assertEqual(book_text(book), text)
                self.assertIs(type(book_text(book)), str)
                self.assert_same_book(read_book(text), book)

    def test_told_books(self):
        lines = ("fun f a", "give a", "main", "set a 1", "if a", "call b f a", "else", "end", "while less i 2",
                 "set i plus i 1", "end", "tell plus a b")
        old = run_of(Setting(read_program("\n".join(lines)), {}))
        for changes in ((), (("row", 1, "give plus a 1"),), (("goes", (8, 1), False), ("row", 3, "set a 2"))):
            setting = old.setting
            for change in changes:
                setting = setting.changed(change)
            run, book = had_been(old, setting)
            self.assert_same_book(read_book(book_text(book)), book)
            self.assertEqual(check(old, setting, read_book(book_text(book))).moments(), run.moments())
        self.assertEqual(book_text(book), "done 3\ndone 4\ndone 4.0.5\ndone 4.0.5.0.1\nkept 8.0 -1\nkept 8.0.9 -1\n"
                                          "done 8.1\ndone 11")

    def test_addresses_of_100_numbers_and_101(self):
        for kind in ("done", "kept", "part"):
            for many, numbers in ((99, (7,)), (100, (0,)), (100, (999999,)), (50, (1, 2))):
                entry = (kind, numbers * many) + (() if kind == "done" else ([],))
                self.assert_same_book(read_book(book_text([entry])), [entry])
            for many in (101, 102, 500):
                self.assert_no_text(read_book, f"{kind} " + ".".join(["1"] * many))

    def test_6000_makers_and_6001(self):
        for kind in ("kept", "part"):
            for maker in (-1, 0, 999999):
                book = [(kind, (3,), [maker] * 6000)]
                self.assert_same_book(read_book(book_text(book)), book)
                with self.assertRaises(NoText):
                    read_book(book_text(book) + f" {maker}")

    def test_makers_are_counted_entry_by_entry(self):
        book = [("kept", (3,), [1] * 6000), ("kept", (4,), [2] * 6000)]
        self.assert_same_book(read_book(book_text(book)), book)

    def test_a_long_book(self):
        book = [("done", (1, number)) for number in range(2000)]
        self.assert_same_book(read_book(book_text(book)), book)

    def test_blanks_and_line_ends_too_many(self):
        for text in BOOKS:
            if text:
                self.assert_no_text(read_book, text + "\n", "\n" + text, text + " ", " " + text, text + "\n\n" + text,
                                    text.replace(" ", "  ", 1), text.replace(" ", "", 1), text.replace(" ", "\n", 1),
                                    text + "\n ", text + " \n" + text, text.replace(" ", "\t", 1))
        self.assert_no_text(read_book, " ", "\n", "\n\n", "  ", " \n ")

    def test_words_that_are_none(self):
        self.assert_no_text(read_book, "done", "kept", "part", "keep 3", "Done 3", "DONE 3", "did 3", "3", "3 done",
                            "done 3 0", "done 3 -1", "done 3 4", "done,3", "start cell 0 1", "goes 3 yes", "row 4 skip",
                            "done 3 done 4", "done 3, done 4", "()", "[]", "-", "done 3\nrow 4 skip")

    def test_numbers_that_are_none(self):
        for number in NO_NUMBERS:
            self.assert_no_text(read_book, f"kept 3 {number}", f"part 3 0 {number} 1")
        for number in ("1.0", "1.1"):
            self.assert_no_text(read_book, f"kept 3 {number}")

    def test_addresses_that_are_none(self):
        for address in NO_ADDRESSES:
            self.assert_no_text(read_book, f"done {address}", f"kept {address} 0", f"done 3\npart {address} -1\ndone 4")

    def test_what_is_no_text(self):
        self.assert_no_text(read_book, *NO_TEXTS)


class ChangesTest(NotesCase):
    def test_written_and_read_back(self):
        for text, change in CHANGES.items():
            with self.subTest(text=text):
                self.assertEqual(change_text(change), text)
                self.assertIs(type(change_text(change)), str)
                self.assert_same_change(read_change(text), change)

    def test_changes_by_their_texts(self):
        program = read_program("main\nif a\ntell cell 1\nelse\nend")
        house = House(Setting(program, {}))
        texts = ["start box - a 1", "row 2 tell plus cell 1 1", "goes 1 yes", "start cell 1 7"]
        for text in texts:
            house.put(read_change(text))
        self.assertEqual(house.run().tells(), [8])
        self.assertEqual([change_text(change) for change in house.changes()], texts)

    def test_addresses_of_100_numbers_and_101(self):
        long, longer = ".".join(["5"] * 100), ".".join(["5"] * 101)
        self.assert_same_change(read_change(f"goes {long} yes"), ("goes", (5,) * 100, True))
        self.assert_same_change(read_change(f"start box {long} a 1"), ("start", ("box", (5,) * 100, "a"), 1))
        self.assert_no_text(read_change, f"goes {longer} yes", f"start box {longer} a 1")

    def test_blanks_and_line_ends_too_many(self):
        for text, change in CHANGES.items():
            self.assert_no_text(read_change, text + "\n", "\n" + text, " " + text, text.replace(" ", "  ", 1),
                                text.replace(" ", "\n", 1), text.replace(" ", "", 1), text + "\n" + text)
            if change[0] != "row":
                self.assert_no_text(read_change, text + " ", text.replace(" ", "  "), text + " 1")

    def test_starts_that_are_none(self):
        self.assert_no_text(
            read_change, "start", "start ", "start 5", "start a 5", "start box 5", "start box - 5", "start box a 5",
            "start box - a", "start box - a 5 6", "start box - - a 5", "start cell 5", "start cell 1 2 3",
            "start cell", "start world w 5", "start world w", "start world 7 w 3", "start world w 7 3 1", "start drawn 3",
            "start drawn w", "start drawn w 1 2", "start Box - a 5", "start boxes - a 5", "start  5", "start - 5",
            "Start cell 1 2", "starts cell 1 2", "cell 1 2", "start cell 1 free", "start box () a 5", "start draw w 1")
        for number in NO_NUMBERS + ("-1", "1.0"):
            self.assert_no_text(read_change, f"start cell 1 {number}", f"start cell {number} 1",
                                f"start world w {number} 1", f"start box - a {number}", f"start drawn w {number}")
        for address in NO_ADDRESSES:
            self.assert_no_text(read_change, f"start box {address} a 1")
        for name in NO_NAMES:
            self.assert_no_text(read_change, f"start box - {name} 1", f"start box 3 {name} 1",
                                f"start world {name} 1 1", f"start drawn {name} 1")

    def test_rows_that_are_none(self):
        self.assert_no_text(read_change, "row", "row ", "row 4", "row 4 ", "row  ", "row   skip", "row skip",
                            "row skip 4", "Row 4 skip", "rows 4 skip", "4 skip", "row 4 skip\n", "row 4 \n",
                            "row 4 set a\nset b", "row 4 \nskip", "row 4\nskip", "row\n4 skip")
        for number in NO_NUMBERS + ("-1", "1.0"):
            self.assert_no_text(read_change, f"row {number} skip")

    def test_goings_that_are_none(self):
        self.assert_no_text(read_change, "goes", "goes ", "goes 3", "goes yes", "goes 3 Yes", "goes 3 true",
                            "goes 3 True", "goes 3 None", "goes 3 1", "goes 3 0", "goes 3 -", "goes 3 yes no",
                            "goes 3 yesno", "goes 3 4 yes", "go 3 yes", "Goes 3 yes", "goes yes 3", "goes 3 frees",
                            "goes 3 ", "goes  yes", "3 yes", "goes 3 y")
        for address in NO_ADDRESSES:
            for word in ("yes", "no", "free"):
                self.assert_no_text(read_change, f"goes {address} {word}")

    def test_other_texts(self):
        self.assert_no_text(read_change, "", " ", "\n", "done 3", "kept 3", "part 3 0", "x", "-", "0")

    def test_what_is_no_text(self):
        self.assert_no_text(read_change, *NO_TEXTS)


class OwnTest(NotesCase):
    def test_told_books_are_the_asker_s_own(self):
        text = "kept 3 0 1\ndone 4"
        for turn in range(2):
            book = read_book(text)
            self.assertEqual(book, [("kept", (3,), [0, 1]), ("done", (4,))])
            book[0][2].append(5)
            book.clear()

    def test_what_is_written_is_not_changed(self):
        book = [("kept", (3,), [0, 1]), ("done", (4,))]
        self.assertEqual(book_text(book), book_text(book))
        self.assertEqual(book, [("kept", (3,), [0, 1]), ("done", (4,))])


if __name__ == "__main__":
    unittest.main()
