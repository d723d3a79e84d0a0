import copy
import unittest

from rankseals.houses import empty_house, is_house
from tests.samples import ODD_THINGS, PARTS, letters, look, nest, paths, put

RANKS = ((0, "anna", 1, "p", 0, 0), (3, "bert", 9, "s", 4, 9), (7, "anna", 5, "z", 4, 9))
LEAVES = ((0, "anna", "bert", "p", 0, 0, 0), (2, "bert", "anna", "s", 3, 8, 500), (9, "cleo", "anna", "z", 3, 4, 5))
RULES = (
    ("p", 0, ()),
    ("p", 50, ((1, "p"), (9, ""), (1, "p"))),
    ("q", 20, ((2, "s"),)),
    ("z", 0, ((3, ""), (2, "z"))),
)
HOUSE = (PARTS, RANKS, LEAVES, RULES)

FULL = (
    tuple((letters(at), letters(at - 1) if at else "") for at in range(8)),
    tuple((at, "anna", 1 + at % 9, letters(at % 8), at, at) for at in range(20)),
    tuple((at, "anna", "bert", letters(at % 8), at, 2 * at, at) for at in range(16)),
    tuple((letters(at // 2), at, tuple((rank, "") for rank in range(1, 7))) for at in range(10)),
)


def may_stand_at(thing, path):
    """Whether an odd thing leaves HOUSE a house: no rows, no seats, within nothing, the paper's own part."""
    if thing == ():
        return path in ((1,), (2,), (3,)) or (path[:1] == (3,) and len(path) == 3 and path[2] == 2)
    if thing == "":
        return (path[:1] == (0,) and len(path) == 3 and path[2] == 1) or (len(path) == 5 and path[4] == 1)
    return False


class IsHouse(unittest.TestCase):
    """[4], and of [2] what numbers are and what may be asked about."""

    def yes(self, thing):
        self.assertIs(is_house(thing), True, repr(thing))

    def no(self, thing):
        self.assertIs(is_house(thing), False, repr(thing))

    def test_the_empty_house(self):
        self.assertEqual(empty_house(), ((), (), (), ()))
        self.yes(empty_house())
        self.yes(((), (), (), ()))

    def test_houses(self):
        self.yes(HOUSE)
        self.yes(FULL)
        self.yes((PARTS, (), (), ()))
        self.yes((PARTS, RANKS, (), ()))
        self.yes((PARTS, (), LEAVES, ()))
        self.yes((PARTS, (), (), RULES))

    def test_one_more_of_each(self):
        self.no(put(FULL, (0,), FULL[0] + (("zz", ""),)))
        self.no(put(FULL, (1,), FULL[1] + ((20, "anna", 1, "aa", 0, 0),)))
        self.no(put(FULL, (2,), FULL[2] + ((16, "anna", "bert", "aa", 0, 0, 0),)))
        self.no(put(FULL, (3,), FULL[3] + (("ah", 0, ()),)))
        for at in range(10):
            self.no(put(FULL, (3, at, 2), FULL[3][at][2] + ((1, ""),)))

    def test_one_fewer_of_each(self):
        self.yes(put(FULL, (1,), FULL[1][1:]))
        self.yes(put(FULL, (2,), FULL[2][:-1]))
        self.yes(put(FULL, (3,), FULL[3][1:]))
        self.yes(put((FULL[0], (), (), ()), (0,), FULL[0][:-1]))

    def test_rows_that_do_not_rise(self):
        for place in range(4):
            rows = HOUSE[place]
            for at in range(len(rows) - 1):
                turned = rows[:at] + (rows[at + 1], rows[at]) + rows[at + 2:]
                self.no(put(HOUSE, (place,), turned))
            self.no(put(HOUSE, (place,), rows[::-1]))

    def test_rows_twice(self):
        for place in range(4):
            rows = HOUSE[place]
            for at in range(len(rows)):
                self.no(put(HOUSE, (place,), rows[:at] + (rows[at],) + rows[at:]))

    def test_one_part_twice(self):
        self.no(((("p", ""), ("p", "q"), ("q", "")), (), (), ()))
        self.no(((("p", ""), ("q", ""), ("q", "p")), (), (), ()))

    def test_one_number_twice(self):
        self.no(put(HOUSE, (1,), ((3, "anna", 1, "p", 0, 0), (3, "bert", 9, "s", 4, 9))))
        self.no(put(HOUSE, (2,), ((3, "anna", "bert", "p", 0, 0, 0), (3, "bert", "anna", "s", 3, 8, 500))))
        self.yes(put(HOUSE, (1,), ((3, "bert", 9, "s", 4, 9), (4, "bert", 9, "s", 4, 9))))
        self.yes(put(HOUSE, (2,), ((3, "anna", "bert", "p", 0, 0, 0), (4, "anna", "bert", "p", 0, 0, 0))))

    def test_two_rules_of_one_part_and_sum(self):
        self.no(put(HOUSE, (3,), (("p", 5, ()), ("p", 5, ((1, ""),)))))
        self.no(put(HOUSE, (3,), (("p", 5, ((1, ""),)), ("p", 5, ()))))
        self.yes(put(HOUSE, (3,), (("p", 5, ((1, ""),)), ("p", 6, ()))))
        self.yes(put(HOUSE, (3,), (("p", 5, ((1, ""),)), ("q", 5, ((1, ""),)))))
        self.no(put(HOUSE, (3,), (("p", 6, ()), ("p", 5, ((1, ""),)))))
        self.yes(put(HOUSE, (3,), (("p", 6, ()), ("q", 5, ((1, ""),)))))

    def test_seats_need_not_rise(self):
        self.yes(put(HOUSE, (3,), (("p", 5, ((9, "q"), (1, "p"), (9, "q"), (9, ""))),)))

    def test_parts_that_come_round(self):
        self.no(((("p", "p"),), (), (), ()))
        self.no(((("p", "q"), ("q", "p")), (), (), ()))
        self.no(((("p", "q"), ("q", "r"), ("r", "p")), (), (), ()))
        self.no(((("p", ""), ("q", "q")), (), (), ()))
        self.no(((("a", ""), ("p", "q"), ("q", "p")), (), (), ()))
        self.no(((("a", "p"), ("p", "q"), ("q", "p")), (), (), ()))
        for at in range(8):
            self.no(put((FULL[0], (), (), ()), (0, 0, 1), letters(at)))

    def test_eight_parts_one_within_the_other(self):
        self.yes((tuple(zip("abcdefgh", ["", "a", "b", "c", "d", "e", "f", "g"])), (), (), ()))
        self.yes((tuple(zip("abcdefgh", ["b", "c", "d", "e", "f", "g", "h", ""])), (), (), ()))

    def test_a_part_that_there_is_not(self):
        for path in ((0, 1, 1), (1, 0, 3), (2, 0, 3), (3, 0, 0), (3, 3, 0), (3, 1, 2, 0, 1), (3, 1, 2, 2, 1)):
            for part in ("x", "pp", "anna", "P", "p ", " ", "p\n", "\n", "p\t", "toolonger"):
                self.no(put(HOUSE, path, part))
        self.no(((), RANKS, (), ()))
        self.no(((), (), LEAVES, ()))
        self.no(((), (), (), RULES))

    def test_the_empty_text(self):
        for path in ((0, 1, 1), (3, 1, 2, 0, 1), (3, 2, 2, 0, 1)):
            self.yes(put(HOUSE, path, ""))
        for path in ((0, 0, 0), (1, 0, 1), (1, 0, 3), (2, 0, 1), (2, 0, 2), (2, 0, 3), (3, 0, 0)):
            self.no(put(HOUSE, path, ""))
        self.no(((), ((0, "anna", 1, "", 0, 0),), (), ()))
        self.no(((), (), ((0, "anna", "bert", "", 0, 0, 0),), ()))
        self.no(((), (), (), (("", 0, ()),)))
        self.no(((("", ""),), (), (), ()))

    def test_names_of_parts_and_people(self):
        for text in ("a", "abcdefgh"):
            for path in ((1, 0, 1), (2, 0, 1), (2, 0, 2)):
                self.yes(put(HOUSE, path, text))
            self.yes((((text, ""),), (), (), ()))
        for text in ("", "abcdefghi", "A", "a1", "a ", " a", "a b", "a\n", "a\t", "-"):
            for path in ((1, 0, 1), (2, 0, 1), (2, 0, 2)):
                self.no(put(HOUSE, path, text))
            self.no((((text, ""),), (), (), ()))

    def test_ranks_from_1_to_9(self):
        for path in ((1, 0, 2), (1, 1, 2), (3, 1, 2, 0, 0), (3, 2, 2, 0, 0)):
            for rank in range(1, 10):
                self.yes(put(HOUSE, path, rank))
            for rank in (0, 10, -1, -9, 100, True, False):
                self.no(put(HOUSE, path, rank))

    def test_first_and_last(self):
        for place, at in ((1, 4), (2, 4)):
            for first, last in ((0, 0), (0, 1), (7, 7), (7, 8), (99999, 99999)):
                self.yes(put(put(HOUSE, (place, 1, at), first), (place, 1, at + 1), last))
            for first, last in ((1, 0), (8, 7), (-1, 0), (-2, -1), (-1, -1), (0, -1), (99999, 0)):
                self.no(put(put(HOUSE, (place, 1, at), first), (place, 1, at + 1), last))

    def test_giver_and_taker_one(self):
        self.no(put(HOUSE, (2, 0, 2), "anna"))
        self.no(put(HOUSE, (2, 2, 1), "anna"))
        self.yes(put(HOUSE, (2, 0, 2), "dora"))

    def test_below_nought(self):
        self.no(put(HOUSE, (1, 0, 0), -1))
        self.no(put(HOUSE, (2, 0, 0), -1))
        self.no(put(HOUSE, (2, 0, 6), -1))
        self.no(put(HOUSE, (3, 0, 1), -1))
        self.yes(put(HOUSE, (1, 0, 0), 1))
        self.yes(put(HOUSE, (2, 0, 0), 1))
        self.yes(put(HOUSE, (2, 0, 6), 1))
        self.yes(put(HOUSE, (3, 0, 1), 1))

    def test_days_and_sums_beyond_the_bounds(self):
        for path in ((1, 1, 5), (2, 1, 5), (2, 1, 6), (3, 1, 1), (1, 2, 0), (2, 2, 0)):
            for number in (99999, 100000, 10 ** 9, 10 ** 9 + 1, 10 ** 40):
                self.yes(put(HOUSE, path, number))
        self.yes(put(put(HOUSE, (1, 1, 4), 10 ** 12), (1, 1, 5), 10 ** 12))

    def test_true_and_false_in_the_place_of_each_number(self):
        numbers = [path for path in paths(HOUSE) if isinstance(look(HOUSE, path), int)]
        self.assertEqual(len(numbers), 3 * 4 + 3 * 4 + 4 + 6)
        for path in numbers:
            self.no(put(HOUSE, path, True))
            self.no(put(HOUSE, path, False))

    def test_true_and_false_where_such_numbers_would_be_right(self):
        for truth in (True, False):
            self.yes((PARTS, ((0, "anna", 1, "p", 0, 1),), (), ()))
            self.no((PARTS, ((truth, "anna", 1, "p", 0, 1),), (), ()))
            self.no((PARTS, ((0, "anna", 1, "p", truth, 1),), (), ()))
            self.no((PARTS, ((0, "anna", 1, "p", 0, truth),), (), ()))
            self.yes((PARTS, (), ((0, "anna", "bert", "p", 0, 1, 1),), ()))
            self.no((PARTS, (), ((truth, "anna", "bert", "p", 0, 1, 1),), ()))
            self.no((PARTS, (), ((0, "anna", "bert", "p", truth, 1, 1),), ()))
            self.no((PARTS, (), ((0, "anna", "bert", "p", 0, truth, 1),), ()))
            self.no((PARTS, (), ((0, "anna", "bert", "p", 0, 1, truth),), ()))
            self.yes((PARTS, (), (), (("p", 1, ((1, ""),)),)))
            self.no((PARTS, (), (), (("p", truth, ((1, ""),)),)))
            self.no((PARTS, (), (), (("p", 1, ((truth, ""),)),)))

    def test_lists_in_the_place_of_each_tuple(self):
        tuples = [path for path in paths(HOUSE) if isinstance(look(HOUSE, path), tuple)]
        self.assertEqual(len(tuples), 1 + 4 + 5 + 3 + 3 + 4 + 4 + 6)
        for path in tuples:
            self.no(put(HOUSE, path, list(look(HOUSE, path))))
        for at in range(4):
            self.no(put(empty_house(), (at,), []))

    def test_tuples_too_long_and_too_short(self):
        fixed = [path for path in paths(HOUSE) if isinstance(look(HOUSE, path), tuple) and len(path) in (0, 2, 4)]
        for path in fixed:
            whole = look(HOUSE, path)
            for more in (whole + whole[-1:], whole + ((),), whole + (0,), whole + ("",), whole + (None,)):
                self.no(put(HOUSE, path, more))
            self.no(put(HOUSE, path, whole[:-1]))
            self.no(put(HOUSE, path, whole[1:]))
            self.no(put(HOUSE, path, ()))
        for at in range(4):
            self.no(((),) * at)
        self.no(((),) * 5)

    def test_other_kinds_at_every_place_and_depth(self):
        for path in paths(HOUSE):
            for thing in ODD_THINGS + (nest(19 - len(path), 0), nest(19 - len(path), "p")):
                if not may_stand_at(thing, path):
                    self.no(put(HOUSE, path, thing))

    def test_other_kinds_in_the_place_of_a_house(self):
        for thing in ODD_THINGS + (0, 4, "p", "abcd", [(), (), (), ()], ([], [], [], []), (0, 0, 0, 0)):
            self.no(thing)
        self.no((None, None, None, None))
        self.no(("", "", "", ""))
        self.no(((None,), (), (), ()))
        self.no((("ab",), (), (), ()))
        for depth in range(1, 21):
            self.no(nest(depth, empty_house()))

    def test_rows_of_unlike_kinds_are_not_compared(self):
        self.no(put(HOUSE, (1, 1, 0), "b"))
        self.no(put(HOUSE, (1, 1, 0), None))
        self.no(put(HOUSE, (2, 1, 0), (1,)))
        self.no(put(HOUSE, (0, 1, 0), 7))
        self.no(put(HOUSE, (0, 1, 0), ["q"]))
        self.no(put(HOUSE, (3, 1, 1), "50"))
        self.no(put(HOUSE, (3, 1, 0), ["p"]))

    def test_asked_again_it_tells_the_same_and_changes_nothing(self):
        for thing in (HOUSE, FULL, [list(HOUSE[0]), [RANKS], [], []], nest(20, empty_house())):
            before = copy.deepcopy(thing)
            self.assertEqual(is_house(thing), is_house(thing))
            self.assertEqual(thing, before)


if __name__ == "__main__":
    unittest.main()
