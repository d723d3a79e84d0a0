import copy
import unittest

from rankseals.words import is_name, is_number
from tests.samples import ODD_THINGS, nest


class IsName(unittest.TestCase):
    """[3]: a text of 1 to 8 letters from a to z."""

    def test_names(self):
        for text in ("a", "z", "m", "az", "anna", "abcdefgh", "zzzzzzzz", "part", "none"):
            self.assertIs(is_name(text), True, text)

    def test_each_letter(self):
        for letter in "abcdefghijklmnopqrstuvwxyz":
            self.assertIs(is_name(letter), True, letter)

    def test_too_short_and_too_long(self):
        for text in ("", "abcdefghi", "a" * 9, "a" * 10, "a" * 160):
            self.assertIs(is_name(text), False, text)

    def test_every_other_sign(self):
        others = [chr(code) for code in range(32, 127) if not 97 <= code <= 122] + ["\t", "\n"]
        self.assertEqual(len(others), 71)
        for sign in others:
            for text in (sign, sign + "ab", "a" + sign + "b", "ab" + sign, "abcdefg" + sign, "abcdefgh" + sign):
                self.assertIs(is_name(text), False, repr(text))

    def test_letters_of_other_tongues(self):
        for text in ("\u00e4", "a\u00df", "\u0430", "na\u00efve", "\u00aa", "a\u0301", "\uff41"):
            self.assertIs(is_name(text), False, text)

    def test_other_kinds(self):
        for thing in ODD_THINGS + (0, 1, 8, ["a"], ("a",), [["a"]], ("a", "b"), (), ["a", "b", "c"]):
            self.assertIs(is_name(thing), False, repr(thing))
        for depth in range(1, 21):
            self.assertIs(is_name(nest(depth, "a")), False)

    def test_asked_again_it_tells_the_same_and_changes_nothing(self):
        for thing in ("anna", ["a", ["b"]], nest(20, "a")):
            before = copy.deepcopy(thing)
            self.assertEqual(is_name(thing), is_name(thing))
            self.assertEqual(thing, before)


class IsNumber(unittest.TestCase):
    """[2]: Python's whole numbers, True and False none."""

    def test_numbers(self):
        for thing in (0, 1, -1, 10 ** 9, 10 ** 40):
            self.assertIs(is_number(thing), True, thing)

    def test_no_numbers(self):
        for thing in (True, False, None, "", "1", [], (), [1], (1,)):
            self.assertIs(is_number(thing), False, repr(thing))


if __name__ == "__main__":
    unittest.main()
