"""Whole numbers, values, names, addresses, places of a start [0.3, 1.1, 1.2, 3.1, 3.2]."""

import unittest

from hadbeen.plain import as_value, is_address, is_name, is_number_text, is_start_place, is_value, is_whole

LANGUAGE = (
    "skip set put ask draw tell if else end while call fun main give "
    "cell plus minus times over rest less same"
).split()


class NumbersTest(unittest.TestCase):
    def test_whole_numbers(self):
        for thing in (0, 1, -1, 999999, 10 ** 39):
            self.assertIs(is_whole(thing), True, thing)

    def test_truths_and_other_things_are_no_whole_numbers(self):
        for thing in (True, False, None, "1", 1.0, (1,), [1]):
            self.assertIs(is_whole(thing), False, thing)

    def test_values(self):
        for thing in (0, 1, 500000, 999999):
            self.assertIs(is_value(thing), True, thing)

    def test_what_is_no_value(self):
        for thing in (-1, 1000000, 10 ** 39, True, False, None, "5", 5.0):
            self.assertIs(is_value(thing), False, thing)

    def test_brought_to_a_value(self):
        cases = ((0, 0), (999999, 999999), (1000000, 0), (1000001, 1), (-1, 999999), (-999999, 1),
                 (-1000000, 0), (999999 * 999999, 1))
        for number, value in cases:
            self.assertEqual(as_value(number), value, number)


class NamesTest(unittest.TestCase):
    def test_names(self):
        for thing in ("a", "z", "abcdef", "uvwxyz", "cells", "iff", "ends", "s", "no", "none", "box"):
            self.assertIs(is_name(thing), True, thing)

    def test_the_words_of_the_language_are_no_names(self):
        self.assertEqual(len(LANGUAGE), 22)
        for word in LANGUAGE:
            self.assertIs(is_name(word), False, word)

    def test_what_is_no_name(self):
        for thing in ("", "abcdefg", "A", "aB", "a1", "1", "a_b", "a b", " a", "a ", "a\n", "-", "\u00e9",
                      None, 1, True, ["a"], ("a",)):
            self.assertIs(is_name(thing), False, thing)


class FiguresTest(unittest.TestCase):
    def test_written_so(self):
        for text in ("0", "1", "9", "10", "100000", "999999"):
            self.assertIs(is_number_text(text), True, text)

    def test_not_written_so(self):
        for text in ("", "00", "01", "000001", "1000000", "0000000", "+1", "-1", "1_0", "1.", " 1", "1 ",
                     "1\n", "a", "\u00b2", "\u0661"):
            self.assertIs(is_number_text(text), False, text)


class AddressesTest(unittest.TestCase):
    def test_addresses(self):
        for thing in ((), (0,), (3, 0, 12), (10 ** 39,)):
            self.assertIs(is_address(thing), True, thing)

    def test_what_is_no_address(self):
        for thing in (None, 0, "", "3", [], [3], {}, (-1,), (0, -1), (True,), (0, False), ("0",), ((0,),), (None,)):
            self.assertIs(is_address(thing), False, thing)


class PlacesTest(unittest.TestCase):
    def test_places_of_a_start(self):
        for thing in (("box", (), "a"), ("cell", 0), ("cell", 999999), ("world", "w", 0), ("world", "abcdef", 999999)):
            self.assertIs(is_start_place(thing), True, thing)

    def test_other_places(self):
        for thing in (("box", (3,), "a"), ("drawn", "w")):
            self.assertIs(is_start_place(thing), False, thing)

    def test_what_is_no_place(self):
        for thing in (None, "cell", (), ("cell",), ("cell", 1, 1), ("cell", True), ("cell", -1), ["cell", 1],
                      ("box", "a"), ("box", [], "a"), ("box", (), "if"), ("world", "w"), ("world", "w", 1000000),
                      ("world", "end", 1), ("other", 1), ("other", (), "a")):
            self.assertIs(is_start_place(thing), False, thing)


if __name__ == "__main__":
    unittest.main()
