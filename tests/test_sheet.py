import unittest

from rankseals.errors import BadRow, SealError
from rankseals.sheet import run

# Anna lets dora sign in shop, days 10 to 20, up to 500; bert lets cleo; dora lets eve.
HOUSE = [
    "part firm -", "part shop firm", "part yard firm", "rank anna 5 firm 0 99", "rank bert 3 shop 0 99",
    "leave anna dora shop 10 20 500", "leave bert cleo firm 0 99 50", "leave dora eve firm 0 99 500",
    "rule firm 0 3", "rule shop 100 5 3/shop",
]
INK = "paper ink shop 100 11 xena yves"


def answers(*rows):
    return run("\n".join(rows))


def behind(rows, *more):
    """What is answered to rows behind others."""
    rows = list(rows)
    return answers(*rows, *more)[len(rows):]


class Answers(unittest.TestCase):
    """[19]: the answers to each kind of row."""

    def test_deeds_and_their_numbers(self):
        self.assertEqual(answers(*HOUSE), ["done", "done", "done", "done 0", "done 1", "done 0", "done 1", "done 2",
                                           "done", "done"])
        self.assertEqual(behind(HOUSE, "endrank 0 50", "endleave 0 15", "back 1", "again 1", "norule shop 100", INK,
                                "sign ink anna anna 12", "sign ink bert bert 12", "draw ink 0 13",
                                "sign ink anna dora 14", "undo"),
                         ["done", "done", "done", "done", "done", "done", "done 0", "done 1", "done", "done 2", "done"])

    def test_numbers_come_again_behind_an_undo(self):
        self.assertEqual(behind(HOUSE, "rank gus 1 firm 0 9", "undo", "rank hal 1 firm 0 9", "leave a b firm 0 9 5",
                                "undo", "leave a b firm 0 9 5", INK, "sign ink a a 11", "undo", "sign ink b b 11"),
                         ["done 2", "done", "done 2", "done 3", "done", "done 3", "done", "done 0", "done", "done 0"])

    def test_stands(self):
        self.assertEqual(behind(HOUSE, INK, "stands ink 11", "sign ink anna anna 12", "sign ink bert bert 13",
                                "stands ink 12", "stands ink 13", "stands ink 99999", "draw ink 0 20", "stands ink 19",
                                "stands ink 20", "stands ink 0")[1:],
                         ["no", "done 0", "done 1", "no", "yes", "yes", "done", "yes", "no", "no"])

    def test_standing(self):
        self.assertEqual(behind(HOUSE, "standing 20", INK, "paper cap yard 5 12 xena yves", "paper axe yard 5 14 a b",
                                "standing 20", "sign cap anna anna 15", "standing 20", "sign axe anna anna 17",
                                "standing 16", "standing 20", "standing 0"),
                         ["none", "done", "done", "done", "none", "done 0", "cap", "done 0", "cap", "axe cap", "none"])

    def test_hands(self):
        self.assertEqual(behind(HOUSE, INK, "hands ink 12", "sign ink anna dora 12", "hands ink 12", "sign ink b b 13",
                                "sign ink c a 13", "hands ink 11", "hands ink 13", "draw ink 1 15", "hands ink 15"),
                         ["done", "none", "done 0", "0 anna dora", "done 1", "done 2", "none",
                          "0 anna dora ; 1 b b ; 2 c a", "done", "0 anna dora ; 2 c a"])

    def test_more(self):
        self.assertEqual(behind(HOUSE, INK, "more ink 11", "more ink 100", "sign ink anna anna 12", "more ink 12",
                                "sign ink bert bert 12", "more ink 12", "paper cap yard 5 12 anna a", "more cap 20"),
                         ["done", "2", "never", "done 0", "1", "done 1", "0", "done", "never"])

    def test_row(self):
        self.assertEqual(behind(HOUSE, INK, "sign ink anna dora 12", "sign ink bert eve 12", "sign ink cleo cleo 12",
                                "row ink 0", "row ink 1", "row ink 2", "sign ink dora xena 12", "row ink 3"),
                         ["done", "done 0", "done 1", "done 2", "0", "none", "itself", "done 3", "none"])
        self.assertEqual(behind(HOUSE, INK, "sign ink anna eve 12", "row ink 0", "back 2", "row ink 0", "again 2",
                                "leave anna eve shop 0 12 100", "row ink 0", "endleave 3 11", "row ink 0"),
                         ["done", "done 0", "0 2", "done", "none", "done", "done 3", "3", "done", "0 2"])

    def test_no_row_by_a_side(self):
        leaves = ["leave bert xena firm 0 99 500", "leave bert yves firm 0 99 500", "leave xena gus firm 0 99 500",
                  "leave yves gus firm 0 99 500"]
        for asker, getter, told in (("a", "b", "3 5"), ("xena", "b", "4 6"), ("b", "yves", "3 5"),
                                    ("xena", "yves", "none"),
                                    ("yves", "xena", "none"), ("bert", "a", "none"), ("a", "gus", "none")):
            self.assertEqual(behind(HOUSE + leaves, f"paper ink shop 100 11 {asker} {getter}", "sign ink bert gus 12",
                                    "row ink 0"), ["done", "done 0", told])

    def test_row_of_a_hand_that_is_drawn_back(self):
        self.assertEqual(behind(HOUSE, INK, "sign ink anna dora 12", "draw ink 0 12", "row ink 0", "hands ink 12",
                                "sign ink dora dora 14", "draw ink 1 20", "row ink 1"),
                         ["done", "done 0", "done", "0", "none", "done 1", "done", "itself"])

    def test_row_on_the_hands_own_day(self):
        self.assertEqual(behind(HOUSE, INK, "sign ink anna dora 20", "row ink 0", "sign ink dora anna 21", "row ink 0"),
                         ["done", "done 0", "0", "done 1", "0"])
        self.assertEqual(behind(HOUSE, INK, "sign ink anna dora 21", "row ink 0"), ["done", "done 0", "none"])

    def test_a_row_of_two_figures(self):
        many = [f"leave anna dora shop 0 {day} 5" for day in range(8)]
        self.assertEqual(behind(HOUSE + many, "leave anna gus shop 0 99 500", "leave gus hal firm 0 99 500", INK,
                                "sign ink anna hal 50", "row ink 0"),
                         ["done 11", "done 12", "done", "done 0", "11 12"])

    def test_leans(self):
        self.assertEqual(behind(HOUSE, INK, "paper cap shop 5 11 a b", "sign ink anna dora 12", "leans 0 12",
                                "sign ink bert bert 12", "leans 0 11", "leans 0 12", "leans 1 12", "norule shop 100",
                                "sign cap anna dora 13", "leans 0 13", "draw ink 1 14", "leans 0 14", "back 0",
                                "leans 0 14"),
                         ["done", "done", "done 0", "none", "done 1", "none", "ink", "none", "done", "done 0", "cap",
                          "done", "cap ink", "done", "none"])

    def test_splits(self):
        self.assertEqual(behind(HOUSE, "splits 100 5", "paper ink shop 60 11 a b", "paper cap shop 60 12 a c",
                                "paper axe yard 60 12 a c", "splits 100 1", "splits 100 2", "paper wax shop 50 13 a d",
                                "splits 100 2", "splits 100 3", "splits 60 3", "splits 0 1"),
                         ["none", "done", "done", "done", "none", "cap ink", "done", "cap ink ; cap wax", "cap ink wax",
                          "none", "none"])

    def test_seats(self):
        self.assertEqual(behind(HOUSE, "seats firm 0", "seats yard 1000000000", "seats shop 99", "seats shop 100",
                                "rule yard 5 1/firm 9 2 2 2/yard 9/shop", "seats yard 4", "seats yard 5",
                                "rule yard 7", "seats yard 7"),
                         ["3/firm", "3/yard", "none", "5/shop 3/shop", "done", "none",
                          "1/firm 9/yard 2/yard 2/yard 2/yard 9/shop", "done", "none"])

    def test_the_empty_sheet(self):
        for text in ("", " ", "\n", "\n\n  \n"):
            self.assertEqual(run(text), [])

    def test_blanks_and_rows_without_words(self):
        self.assertEqual(run("\n  part   firm -  \n\n   \nseats firm 5\n"), ["done", "none"])

    def test_two_sheets_tell_apart(self):
        self.assertEqual(answers("part firm -", "rank a 1 firm 0 9"), ["done", "done 0"])
        self.assertEqual(answers("part firm -", "rank a 1 firm 0 9"), ["done", "done 0"])
        self.assertEqual(answers("undo", "seats firm 0"), ["no deed", "no part"])

    def test_what_is_told_is_the_askers_own(self):
        first = answers(*HOUSE)
        first.append("more")
        second = answers(*HOUSE)
        self.assertEqual(len(second), len(HOUSE))
        self.assertTrue(all(type(text) is str for text in second))


class Refusals(unittest.TestCase):
    """[19]: each refusal by its words, of deeds and of asks; it changes nothing."""

    def test_taken(self):
        self.assertEqual(behind(HOUSE, "part shop -", "part shop none", INK, INK, "paper ink none 5 5 a b"),
                         ["taken", "taken", "done", "taken", "taken"])

    def test_no_part(self):
        self.assertEqual(behind(HOUSE, "part new none", "rank a 1 none 0 9", "leave a b none 0 9 5", "rule none 5",
                                "rule firm 5 1 1/none", "paper ink none 5 5 a b", "seats none 5", "seats xena 0"),
                         ["no part"] * 8)

    def test_no_rank(self):
        self.assertEqual(behind(HOUSE, "endrank 2 50", "endrank 999 0", "undo", "undo"), ["no rank"] * 2 + ["done"] * 2)

    def test_no_leave(self):
        self.assertEqual(behind(HOUSE, "endleave 3 50", "back 3", "again 3", "again 0", "leans 3 5", "back 0",
                                "back 0"),
                         ["no leave"] * 5 + ["done", "no leave"])

    def test_no_rule(self):
        self.assertEqual(behind(HOUSE, "norule firm 1", "norule none 0", "norule yard 0"), ["no rule"] * 3)

    def test_no_paper(self):
        self.assertEqual(behind(HOUSE, "sign ink a a 5", "draw ink 0 5", "stands ink 5", "hands ink 5", "more ink 5",
                                "row ink 0"), ["no paper"] * 6)

    def test_no_hand(self):
        self.assertEqual(behind(HOUSE, INK, "draw ink 0 20", "row ink 0", "sign ink a a 12", "draw ink 1 5",
                                "row ink 1", "draw ink 0 13", "draw ink 0 13", "row ink 0"),
                         ["done", "no hand", "no hand", "done 0", "no hand", "no hand", "done", "no hand", "itself"])

    def test_no_deed(self):
        self.assertEqual(answers("undo", "part a -", "undo", "undo"), ["no deed", "done", "done", "no deed"])

    def test_bad_day(self):
        self.assertEqual(behind(HOUSE, "leave a b firm 5 9 5", "rank a 1 firm 5 9", "endleave 3 4", "endrank 2 4", INK,
                                "sign ink a a 10", "sign ink a a 15", "draw ink 0 14", "more ink 14", "draw ink 0 16",
                                "sign ink a a 15", "more ink 15"),
                         ["done 3", "done 2", "bad day", "bad day", "done", "bad day", "done 0", "bad day", "bad day",
                          "done", "bad day", "bad day"])

    def test_twice(self):
        self.assertEqual(behind(HOUSE, INK, "sign ink a b 12", "sign ink a c 12", "sign ink c b 12", "sign ink b a 12"),
                         ["done", "done 0", "twice", "twice", "done 1"])

    def test_the_one_told_first_goes_first(self):
        self.assertEqual(behind(HOUSE, INK, "sign ink a b 12", "sign ink a b 11", "draw ink 1 11", "sign cap a b 0"),
                         ["done", "done 0", "bad day", "no hand", "no paper"])

    def test_refused_ones_are_no_deeds(self):
        self.assertEqual(behind(HOUSE, INK, "part shop -", "sign ink a a 10", "stands cap 5", "undo", "stands ink 11"),
                         ["done", "taken", "bad day", "no paper", "done", "no paper"])


class BadRows(unittest.TestCase):
    """[19]: BadRow, ahead of all answers, with the number of the first row that is wrong."""

    def bad(self, number, *rows):
        with self.assertRaises(BadRow) as caught:
            answers(*rows)
        self.assertEqual(type(caught.exception), BadRow)
        self.assertIsInstance(caught.exception, SealError)
        self.assertEqual(caught.exception.row, number)
        self.assertIs(type(caught.exception.row), int)

    def test_a_row_that_is_not_so_written(self):
        self.bad(0, "nothing")
        self.bad(0, "nothing", "part a -")
        self.bad(1, "part a -", "part b")
        self.bad(10, *HOUSE, "rank anna 5 firm 9 8")
        self.bad(10, *HOUSE, "leave anna anna firm 8 9 5", "part a -", "nothing")
        self.bad(2, "part a -", "part b -", "part\tc -")
        self.bad(0, "\t")

    def test_rows_without_words_are_counted(self):
        self.bad(3, "", "  ", "part a -", "part b", "")
        self.bad(2, "", "", "x")

    def test_refused_and_undone_rows_are_counted(self):
        self.bad(3, "undo", "undo", "part a none", "x")

    def test_a_ninth_part(self):
        rows = [f"part {name} -" for name in "abcdefgh"]
        self.assertEqual(answers(*rows), ["done"] * 8)
        self.bad(8, *rows, "part i -")
        self.bad(10, "", *rows, "undo", "part i -")
        self.bad(8, *["part a none"] * 8, "part a -")
        self.bad(8, *["part a -"] * 9)

    def test_a_21st_rank(self):
        rows = ["part a -"] + ["rank anna 5 a 0 9"] * 20
        self.assertEqual(answers(*rows)[-1], "done 19")
        self.bad(21, *rows, "rank anna 5 a 0 9")
        self.bad(22, *rows, "undo", "rank anna 5 a 0 9")
        self.bad(20, *["rank anna 5 a 0 9"] * 22)

    def test_a_17th_leave(self):
        rows = ["part a -"] + ["leave anna bert a 0 9 5"] * 16
        self.assertEqual(answers(*rows)[-1], "done 15")
        self.bad(17, *rows, "leave anna bert a 0 9 5")
        self.bad(18, *rows, "back 3", "leave anna bert a 0 9 5")
        self.bad(16, *["leave anna bert a 0 9 5"] * 17)

    def test_an_eleventh_rule(self):
        rows = ["part a -"] + [f"rule a {many} 5" for many in range(10)]
        self.assertEqual(answers(*rows), ["done"] * 11)
        self.bad(11, *rows, "rule a 10 5")
        self.bad(12, *rows, "norule a 0", "rule a 0 5")
        self.bad(11, "part a -", *["rule a 5"] * 11)
        self.bad(10, *["rule none 5"] * 11)

    def test_an_eleventh_paper(self):
        rows = ["part a -"] + [f"paper {name} a 5 0 x y" for name in "abcdefghij"]
        self.assertEqual(answers(*rows), ["done"] * 11)
        self.bad(11, *rows, "paper k a 5 0 x y")
        self.bad(12, *rows, "undo", "paper k a 5 0 x y")
        self.bad(10, *["paper a none 5 0 x y"] * 11)

    def test_an_eleventh_sign_of_one_papers_name(self):
        rows = ["part a -", "paper ink a 5 0 x y", "paper cap a 5 0 x y"]
        rows += [f"sign ink {name} {name} 5" for name in "abcdefghij"]
        rows += [f"sign cap {name} {name} 5" for name in "abcdefghij"]
        self.assertEqual(answers(*rows)[-1], "done 9")
        self.bad(23, *rows, "sign ink k k 5")
        self.bad(23, *rows, "sign cap k k 5")
        self.bad(24, *rows, "draw cap 0 5", "sign cap a a 5")
        self.bad(10, *["sign ink a a 5"] * 11)
        rows = ["sign ink a a 5"] * 10 + ["sign cap a a 5"] * 10 + ["sign axe a a 5"]
        self.assertEqual(answers(*rows), ["no paper"] * 21)

    def test_other_rows_as_many_as_one_likes(self):
        for row, answer in (("undo", "no deed"), ("endrank 0 5", "no rank"), ("endleave 0 5", "no leave"),
                            ("back 0", "no leave"), ("again 0", "no leave"), ("norule a 5", "no rule"),
                            ("draw ink 0 5", "no paper"), ("stands ink 5", "no paper"), ("standing 5", "none"),
                            ("hands ink 5", "no paper"), ("more ink 5", "no paper"), ("row ink 5", "no paper"),
                            ("leans 0 5", "no leave"), ("splits 5 5", "none"), ("seats a 5", "no part")):
            self.assertEqual(answers(*[row] * 160), [answer] * 160)

    def test_the_first_wrong_row(self):
        rows = ["part a -"] * 8
        self.bad(8, *rows, "part b -", "nothing")
        self.bad(8, *rows, "nothing", "part b -")
        self.bad(9, *rows, "undo", "part b -", "part b -", "nothing")

    def test_wrongly_written_rows_are_not_counted_ahead(self):
        self.bad(1, "part a -", "part A -", *["part a -"] * 8)

    def test_the_next_sheet_begins_anew(self):
        self.bad(8, "part a -", *["part b -"] * 9)
        self.assertEqual(answers("part a -"), ["done"])


class Great(unittest.TestCase):
    """[2]: sheets of 160 rows of 160 signs."""

    def test_160_rows(self):
        names = ["pa", "pb", "pc", "pd", "pe", "pf", "pg", "ph", "pi", "pj"]
        people = ["aa", "ab", "ac", "ad", "ae", "af", "ag", "ah", "ai", "aj"]
        rows = ["part firm -", "rule firm 0 1 1 1 1 1 1"] + [f"rank {who} 9 firm 0 99999" for who in people]
        rows += [f"paper {name} firm 1000000000 0 xena yves" for name in names]
        rows += [f"sign {name} {who} {who} {at}" for name in names for at, who in enumerate(people)]
        rows += ["standing 4", "standing 5"] + [f"draw {name} {at} 99999" for name in names[:3] for at in range(5)]
        rows += ["standing 99998", "standing 99999", "more pa 99999", "splits 1000000000 1"]
        rows += ["hands pa 99999", "undo", "hands pc 99999", "undo", "stands pc 99999", "", "standing 99999", ""]
        rows = ["  " + row + " " * (158 - len(row)) for row in rows] + [" " * 160] * (160 - len(rows))
        self.assertEqual((len(rows), {len(row) for row in rows}), (160, {160}))
        told = answers(*rows)
        self.assertEqual(told[:22], ["done"] * 2 + [f"done {at}" for at in range(10)] + ["done"] * 10)
        self.assertEqual(told[22:122], [f"done {at}" for at in range(10)] * 10)
        everything = " ".join(names)
        self.assertEqual(told[122:124], ["none", everything])
        left = "5 af af ; 6 ag ag ; 7 ah ah ; 8 ai ai ; 9 aj aj"
        self.assertEqual(told[139:], [everything, " ".join(names[3:]), "1", "none", left, "done", "4 ae ae ; " + left,
                                      "done", "yes", " ".join(names[2:])])


if __name__ == "__main__":
    unittest.main()
