import unittest

from rankseals.houses import empty_house
from rankseals.parts import parts_over
from tests.samples import PARTS

HOUSE = (PARTS, (), (), ())


class PartsOver(unittest.TestCase):
    """[5]: a part and all within which it lies, itself first."""

    def test_one_part_alone(self):
        self.assertEqual(parts_over(((("a", ""),), (), (), ()), "a"), ["a"])

    def test_a_part_beside_others(self):
        self.assertEqual(parts_over(HOUSE, "p"), ["p"])
        self.assertEqual(parts_over(HOUSE, "z"), ["z"])

    def test_parts_within_others(self):
        self.assertEqual(parts_over(HOUSE, "q"), ["q", "p"])
        self.assertEqual(parts_over(HOUSE, "r"), ["r", "p"])
        self.assertEqual(parts_over(HOUSE, "s"), ["s", "q", "p"])

    def test_eight_parts_one_within_the_other(self):
        rising = tuple(zip("abcdefgh", ["", "a", "b", "c", "d", "e", "f", "g"]))
        for at, part in enumerate("abcdefgh"):
            self.assertEqual(parts_over((rising, (), (), ()), part), list("abcdefgh"[at::-1]))
        falling = tuple(zip("abcdefgh", ["b", "c", "d", "e", "f", "g", "h", ""]))
        for at, part in enumerate("abcdefgh"):
            self.assertEqual(parts_over((falling, (), (), ()), part), list("abcdefgh"[at:]))

    def test_what_is_no_part(self):
        for part in ("x", "pp", "", "anna"):
            self.assertEqual(parts_over(HOUSE, part), [])
            self.assertEqual(parts_over(empty_house(), part), [])

    def test_a_told_list_is_the_askers_own(self):
        for part, told in (("s", ["s", "q", "p"]), ("x", [])):
            first, second = parts_over(HOUSE, part), parts_over(HOUSE, part)
            self.assertIsNot(first, second)
            first.append("y")
            first.reverse()
            self.assertEqual(second, told)
            self.assertEqual(parts_over(HOUSE, part), told)


if __name__ == "__main__":
    unittest.main()
