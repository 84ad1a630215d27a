import re
import unittest
from itertools import product

from helper import NO_SETTINGS, refused, small_settings
from pilewheel.errors import NoNote, NoPiles
from pilewheel.notes import read, shown
from pilewheel.settings import is_setting

WRITTEN = [
    ([1], "1"),
    ([2, 1], "2 1"),
    ([3, 2, 2], "3 2 2"),
    ([10], "10"),
    ([10, 9, 1], "10 9 1"),
    ([20, 20, 10, 10, 3], "20 20 10 10 3"),
    ([99, 1], "99 1"),
    ([100], "100"),
    ([50, 50], "50 50"),
    ([1] * 100, "1 " * 99 + "1"),
]

NO_NOTES = [
    "", " ", "  ", "\t", "\n", " " * 400,
    " 1", "1 ", " 2 1", "2 1 ", " 2 1 ", "2  1", "2   1",
    "\t2 1", "2\t1", "2 1\t", "2 \t1", "\n2 1", "2\n1", "2 1\n", "2 1\n\n", "2 \n1", "1\n",
    "0", "00", "01", "02 1", "2 01", "2 1 0", "3 00", "0 0", "10 05", "001",
    "+1", "-1", "+2 1", "2 +1", "2 -1", "- 1", "--1", "2 - 1",
    "1_0", "1_", "_1", "2 1_0", "10_0",
    "1 2", "2 3 1", "3 1 2", "9 10", "1 1 1 2",
    "101", "100 1", "51 50", "999", "1000", "1" * 30, "9" * 400, "99 2", "1 " * 100 + "1", "1 " * 199 + "1",
    "a", "2 a", "one", "2,1", "2, 1", "2;1", "2.0", "1e1", "0x1", "0b1", "1L", "[2, 1]", "(1)", "2/1", "#1",
    "~", "!", "'1'", "\"1\"", "2 1 x", "x 2 1", "2:1", "2 :", "2 /", "2 1~",
]


class ShownTest(unittest.TestCase):
    def test_written_settings(self):
        for piles, text in WRITTEN:
            self.assertEqual(shown(piles), text)

    def test_lists_that_are_no_setting(self):
        for piles in NO_SETTINGS:
            refused(self, NoPiles, shown, piles)


class ReadTest(unittest.TestCase):
    def test_written_settings(self):
        for piles, text in WRITTEN:
            self.assertEqual(read(text), piles)

    def test_all_settings_of_few_coins_there_and_back(self):
        for piles in small_settings(14):
            self.assertEqual(read(shown(piles)), piles)

    def test_texts_that_write_none(self):
        for text in NO_NOTES:
            refused(self, NoNote, read, text)

    def test_other_signs_anywhere(self):
        for sign in ["\t", "\n"] + [chr(place) for place in range(ord(" "), ord("~") + 1) if chr(place) != "%"]:
            if sign not in "0123456789":
                for text in [sign, sign + "5 3", "5 3" + sign, "5" + sign + " 3", "5 " + sign + "3", sign * 400]:
                    refused(self, NoNote, read, text)
                if sign != " ":
                    refused(self, NoNote, read, "5" + sign + "3")

    def test_each_short_text(self):
        pile = re.compile("[1-9][0-9]*")
        for many in range(6):
            for signs in product("012 -", repeat=many):
                text = "".join(signs)
                words = text.split(" ")
                if all(pile.fullmatch(word) for word in words) and is_setting([int(word) for word in words]):
                    self.assertEqual(shown(read(text)), text)
                else:
                    refused(self, NoNote, read, text)

    def test_longer_texts_than_python_takes_as_a_number(self):
        refused(self, NoNote, read, "9" * 5000)


class InterfaceTest(unittest.TestCase):
    def test_names_of_arguments(self):
        self.assertEqual(shown(piles=[2, 1]), "2 1")
        self.assertEqual(read(text="2 1"), [2, 1])

    def test_kinds(self):
        self.assertIs(type(shown([10, 2])), str)
        self.assertIs(type(read("10 2")), list)
        self.assertEqual({type(pile) for pile in read("10 2")}, {int})


if __name__ == "__main__":
    unittest.main()
