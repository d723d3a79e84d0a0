import unittest

from rankseals import errors

WITH_WORDS = (
    errors.Taken, errors.NoPart, errors.NoRank, errors.NoLeave, errors.NoRule,
    errors.NoPaper, errors.NoHand, errors.NoDeed, errors.BadDay, errors.Twice,
)


class Errors(unittest.TestCase):
    def test_the_base_stands_under_value_error(self):
        self.assertEqual(errors.SealError.__bases__, (ValueError,))

    def test_all_stand_straight_under_the_base(self):
        for kind in WITH_WORDS + (errors.BadRow,):
            self.assertEqual(kind.__bases__, (errors.SealError,), kind)

    def test_no_two_are_one(self):
        self.assertEqual(len(set(WITH_WORDS + (errors.BadRow,))), 11)

    def test_they_bear_their_own_names(self):
        names = ["Taken", "NoPart", "NoRank", "NoLeave", "NoRule", "NoPaper", "NoHand", "NoDeed", "BadDay", "Twice"]
        self.assertEqual([kind.__name__ for kind in WITH_WORDS], names)
        self.assertEqual(errors.BadRow.__name__, "BadRow")
        self.assertEqual(errors.SealError.__name__, "SealError")

    def test_they_are_made_with_words(self):
        for kind in WITH_WORDS:
            with self.assertRaises(kind) as caught:
                raise kind("some words")
            self.assertEqual(str(caught.exception), "some words")

    def test_a_bad_row_has_its_field(self):
        for row in (0, 1, 159):
            with self.assertRaises(errors.SealError) as caught:
                raise errors.BadRow(row)
            self.assertEqual(caught.exception.row, row)
        first, second = errors.BadRow(3), errors.BadRow(4)
        self.assertEqual((first.row, second.row), (3, 4))


if __name__ == "__main__":
    unittest.main()
