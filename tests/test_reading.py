import unittest

from rankseals.reading import read_row

# A row of each kind as it should be, and what is read of it.
ROWS = (
    ("part a -", ("part", "a", "")),
    ("part a b", ("part", "a", "b")),
    ("part a a", ("part", "a", "a")),
    ("rank anna 5 firm 0 99", ("rank", "anna", 5, "firm", 0, 99)),
    ("rank anna 1 firm 7 7", ("rank", "anna", 1, "firm", 7, 7)),
    ("endrank 3 20", ("endrank", 3, 20)),
    ("leave anna bert firm 10 20 500", ("leave", "anna", "bert", "firm", 10, 20, 500)),
    ("leave anna bert firm 10 10 0", ("leave", "anna", "bert", "firm", 10, 10, 0)),
    ("endleave 0 0", ("endleave", 0, 0)),
    ("back 4", ("back", 4)),
    ("again 4", ("again", 4)),
    ("rule a 50 2 3/b", ("rule", "a", 50, ((2, ""), (3, "b")))),
    ("rule a 50", ("rule", "a", 50, ())),
    ("rule a 50 1", ("rule", "a", 50, ((1, ""),))),
    ("rule a 0 9/a", ("rule", "a", 0, ((9, "a"),))),
    ("rule a 50 1 1 1/b 2 9 9/abcdefgh",
     ("rule", "a", 50, ((1, ""), (1, ""), (1, "b"), (2, ""), (9, ""), (9, "abcdefgh")))),
    ("norule a 50", ("norule", "a", 50)),
    ("paper ink shop 400 11 cleo dora", ("paper", "ink", "shop", 400, 11, "cleo", "dora")),
    ("paper ink shop 400 11 cleo cleo", ("paper", "ink", "shop", 400, 11, "cleo", "cleo")),
    ("sign ink anna bert 12", ("sign", "ink", "anna", "bert", 12)),
    ("sign ink anna anna 12", ("sign", "ink", "anna", "anna", 12)),
    ("draw ink 0 15", ("draw", "ink", 0, 15)),
    ("undo", ("undo",)),
    ("stands ink 12", ("stands", "ink", 12)),
    ("standing 12", ("standing", 12)),
    ("hands ink 12", ("hands", "ink", 12)),
    ("more ink 12", ("more", "ink", 12)),
    ("row ink 0", ("row", "ink", 0)),
    ("leans 0 12", ("leans", 0, 12)),
    ("splits 500 30", ("splits", 500, 30)),
    ("seats shop 400", ("seats", "shop", 400)),
)
# Where in which kinds of rows which words stand.
NAMES = (
    ("part", 1), ("part", 2), ("rank", 1), ("rank", 3), ("leave", 1), ("leave", 2), ("leave", 3), ("rule", 1),
    ("norule", 1), ("paper", 1), ("paper", 2), ("paper", 5), ("paper", 6), ("sign", 1), ("sign", 2), ("sign", 3),
    ("draw", 1), ("stands", 1), ("hands", 1), ("more", 1), ("row", 1), ("seats", 1),
)
DAYS = (
    ("rank", 4), ("rank", 5), ("endrank", 2), ("leave", 4), ("leave", 5), ("endleave", 2), ("paper", 4), ("sign", 4),
    ("draw", 3), ("stands", 2), ("standing", 1), ("hands", 2), ("more", 2), ("leans", 2),
)
SUMS = (("leave", 6), ("rule", 2), ("norule", 2), ("paper", 3), ("splits", 1), ("seats", 2))
NUMBERS = (("endrank", 1), ("endleave", 1), ("back", 1), ("again", 1), ("draw", 2), ("row", 2), ("leans", 1))
PLAIN = {}
for text, told in ROWS:
    PLAIN.setdefault(told[0], text)
# Days from the first one to the last one that there is, so that either may be moved.
PLAIN["rank"] = "rank anna 5 firm 0 99999"
PLAIN["leave"] = "leave anna bert firm 0 99999 500"


def changed(kind, at, word):
    """The plain row of a kind with another word in a place."""
    words = PLAIN[kind].split(" ")
    words[at] = word
    return " ".join(words)


class Rows(unittest.TestCase):
    """[18]: rows as they should be."""

    def test_each_kind(self):
        for text, told in ROWS:
            self.assertEqual(read_row(text), told)
            self.assertEqual([type(thing) for thing in read_row(text)], [type(thing) for thing in told])
        self.assertEqual(len(PLAIN), 21)

    def test_blanks(self):
        for text, told in ROWS:
            for odd in (" " + text, text + " ", "   " + text + "    ", text.replace(" ", "   "),
                        "  " + text.replace(" ", "  ") + " "):
                self.assertEqual(read_row(odd), told)

    def test_rows_without_words(self):
        for text in ("", " ", "  ", " " * 160):
            self.assertEqual(read_row(text), ())

    def test_the_document_s_own(self):
        self.assertEqual(read_row("rule a 50 2 3/b"), ("rule", "a", 50, ((2, ""), (3, "b"))))

    def test_first_words_as_names(self):
        self.assertEqual(read_row("part undo part"), ("part", "undo", "part"))
        self.assertEqual(read_row("paper paper part 5 5 undo undo"), ("paper", "paper", "part", 5, 5, "undo", "undo"))

    def test_the_same_is_told_again(self):
        for text, told in ROWS:
            self.assertEqual(read_row(text), read_row(text))


class Bent(unittest.TestCase):
    """[18]: what is none."""

    def none(self, text):
        self.assertIsNone(read_row(text), text)

    def test_tabs(self):
        self.none("\t")
        self.none(" \t ")
        for text, _ in ROWS:
            for odd in ("\t" + text, text + "\t", text + " \t", "\t " + text):
                self.none(odd)
            if " " in text:
                self.none(text.replace(" ", "\t"))
                self.none(text.replace(" ", "\t", 1))
                self.none(text.replace(" ", " \t ", 1))

    def test_a_word_more_or_less(self):
        for text, told in ROWS:
            words = text.split(" ")
            if len(words) > 1:
                self.none(" ".join(words[1:]))
            if told[0] != "rule":
                for word in ("a", "0", "5", "-", "5/a"):
                    self.none(text + " " + word)
                for at in range(1, len(words)):
                    self.none(" ".join(words[:at] + words[at + 1:]))
        for odd in ("rule", "rule a", "rule 50", "rule 50 2", "rule a 2/b", "rule a b 50"):
            self.none(odd)

    def test_other_first_words(self):
        for word in ("", "parts", "par", "Part", "PART", "part,", "part-", "end", "undone", "0", "a", "-", "#"):
            self.none(f"{word} a -")
        for text, _ in ROWS:
            for odd in (text[0].upper() + text[1:], text.upper(), "x" + text, "un" + text, "." + text, "0 " + text):
                self.none(odd)

    def test_names(self):
        for kind, at in NAMES:
            for word in ("z", "abcdefgh", "zzzzzzzz"):
                self.assertEqual(read_row(changed(kind, at, word))[at], word)
            for word in ("abcdefghi", "A", "Anna", "annA", "a1", "1", "0", "a_", "a.", "a-b", "--", "~", "a/b", "'a'"):
                self.none(changed(kind, at, word))

    def test_a_dash_is_a_part_for_within_alone(self):
        self.assertEqual(read_row("part a -"), ("part", "a", ""))
        for kind, at in NAMES:
            if (kind, at) != ("part", 2):
                self.none(changed(kind, at, "-"))

    def numbers(self, places, low, high):
        for kind, at in places:
            for number in (low, low + 1, high - 1, high):
                read = read_row(changed(kind, at, str(number)))
                if read is not None or (kind, at) not in (("rank", 5), ("leave", 5)):
                    self.assertEqual(read[at], number, (kind, at))
                    self.assertIs(type(read[at]), int)
            for number in (low - 1, high + 1, high * 10, 10 ** 10, 10 ** 11, 10 ** 40):
                self.none(changed(kind, at, str(number)))
            for word in ("01", "00", "000", "05", "+5", "-5", "-0", "+0", "5.", "5.0", "5e1", "1_0", "0x5", "five",
                         "5a", "a5", "-", "5,0", "5/5", "'5'", "0" * 20, "0" + str(high)):
                self.none(changed(kind, at, word))

    def test_days(self):
        self.numbers(DAYS, 0, 99999)

    def test_sums(self):
        self.numbers(SUMS, 0, 10 ** 9)

    def test_numbers(self):
        self.numbers(NUMBERS, 0, 999)

    def test_ranks(self):
        self.numbers((("rank", 2),), 1, 9)

    def test_days_of_splits(self):
        self.numbers((("splits", 2),), 1, 999)

    def test_seats(self):
        for word, seat in (("1", (1, "")), ("9", (9, "")), ("1/a", (1, "a")), ("9/abcdefgh", (9, "abcdefgh"))):
            for text in (f"rule a 50 {word}", f"rule a 50 {word} 2", f"rule a 50 2 {word}"):
                self.assertIn(seat, read_row(text)[3])
        for word in ("0", "10", "01", "+1", "-1", "a", "-", "/", "1/", "/a", "1/-", "1/A", "1/a1", "1/1",
                     "1/abcdefghi", "1/a/b", "1/a/", "1//a", "//", "0/a", "10/a", "01/a", "a/1", "a/a", "1\\a", "1.a",
                     "1/\t", "\t1/a"):
            for text in (f"rule a 50 {word}", f"rule a 50 {word} 2", f"rule a 50 2 {word}", f"rule a 50 2/b {word} 3"):
                self.none(text)

    def test_a_part_of_a_seat_by_itself(self):
        for text in ("rule a 50 1 /b", "rule a 50 1/ b", "rule a 50 1 / b"):
            self.none(text)

    def test_none_to_six_seats(self):
        for many in range(7):
            self.assertEqual(read_row("rule a 50" + " 2/b" * many), ("rule", "a", 50, ((2, "b"),) * many))
        for many in (7, 8, 20):
            self.none("rule a 50" + " 2/b" * many)
            self.none("rule a 50" + " 2" * many)

    def test_first_above_last(self):
        for text in ("rank anna 5 firm 8 7", "rank anna 5 firm 99999 0", "rank anna 5 firm 10 9",
                     "leave anna bert firm 8 7 500", "leave anna bert firm 10 9 500"):
            self.none(text)

    def test_giver_and_taker_one(self):
        self.none("leave anna anna firm 1 7 500")
        self.assertEqual(read_row("leave anna ann firm 1 7 500")[1:3], ("anna", "ann"))

    def test_both_at_once(self):
        self.none("leave anna anna firm 8 7 500")


if __name__ == "__main__":
    unittest.main()
