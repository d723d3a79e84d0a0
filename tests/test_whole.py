"""The promises of [1] and [2] over the whole program, through the book and through sheets."""

import copy
import random
import unittest

from rankseals.book import Book
from rankseals.leaning import bearing, carried, days_standing, leaning, leaning_rows
from rankseals.leaves import row_of
from rankseals.rules import seats_of
from rankseals.sheet import run
from rankseals.splitting import is_split, splits
from tests.books import PAPERS, Plain, all_told, asked, do, odd_begin, odd_book, odd_deeds, told_by

DAYS = (0, 2, 3, 5, 7, 9, 12)
WORDS = {
    "add_part": "part", "give_rank": "rank", "end_rank": "endrank", "give_leave": "leave", "end_leave": "endleave",
    "take_back": "back", "give_again": "again", "set_rule": "rule", "drop_rule": "norule", "put_paper": "paper",
    "sign": "sign", "draw_back": "draw", "undo": "undo",
}
REFUSALS = {
    "Taken": "taken", "NoPart": "no part", "NoRank": "no rank", "NoLeave": "no leave", "NoRule": "no rule",
    "NoPaper": "no paper", "NoHand": "no hand", "NoDeed": "no deed", "BadDay": "bad day", "Twice": "twice",
}
MOST = {"add_part": 8, "give_rank": 20, "give_leave": 16, "set_rule": 10, "put_paper": 10, "sign": 10}


def bounded(deeds):
    """The deeds without those that would be too many for one sheet."""
    kept = []
    for deed in deeds:
        told = 2 if deed[0] == "sign" else 1
        if len([other for other in kept if other[:told] == deed[:told]]) < MOST.get(deed[0], 999):
            kept.append(deed)
    return kept


def row_text(deed):
    """A deed as a row of a sheet."""
    word, *things = deed
    if word == "add_part" and things[1] == "":
        things = [things[0], "-"]
    if word == "set_rule":
        things = things[:2] + [f"{rank}/{part}" if part else str(rank) for rank, part in things[2]]
    return " ".join([WORDS[word]] + [str(thing) for thing in things])


def deed_answer(told):
    """What a sheet answers to a deed of which a book told this."""
    if isinstance(told, str):
        return REFUSALS[told]
    return "done" if told is None else f"done {told}"


def odd_ask(chance):
    """An ask of a sheet by a seeded chance, as the row's words."""
    name, day, n = chance.choice(PAPERS), chance.choice(DAYS), chance.randint(0, 5)
    return chance.choice((
        ("stands", name, day), ("standing", day), ("hands", name, day), ("more", name, chance.choice((day, 12, 13))),
        ("row", name, n % 3), ("leans", n, day), ("splits", chance.choice((50, 60, 61, 100)), chance.randint(1, 5)),
        ("seats", chance.choice(("p", "q", "r", "s", "nopart")), chance.choice((0, 49, 50))),
    ))


def ask_answer(book, plain, words):
    """What a sheet answers to an ask, by what a book tells."""
    told = asked(lambda: plain_answer(book, plain, words))
    return REFUSALS.get(told, told)


def plain_answer(book, plain, words):
    word, *things = words
    if word == "stands":
        return "yes" if book.stands_on(*things) else "no"
    if word == "standing":
        return " ".join(book.standing(*things)) or "none"
    if word == "hands":
        return " ; ".join(f"{n} {holder} {signer}" for n, holder, signer, _ in book.hands_on(*things)) or "none"
    if word == "more":
        told = book.more_on(*things)
        return str(len(told[1])) if told[0] == "more" else "never"
    if word == "row":
        *paper, _ = book.paper_of(things[0])
        hands = plain.papers()[things[0]]["hands"]
        if things[1] >= len(hands):
            return "no hand"
        hand = hands[things[1]]
        row = row_of(book.house(), tuple(paper), hand["holder"], hand["signer"], hand["day"])
        return "none" if row is None else " ".join(map(str, row)) or "itself"
    if word == "leans":
        return " ".join(leaning(book, *things)) or "none"
    if word == "splits":
        return " ; ".join(" ".join(names) for names in splits(book, *things)) or "none"
    if things[0] not in dict(book.house()[0]):
        return "no part"
    return " ".join(f"{rank}/{part}" for rank, part in seats_of(book.house(), *things)) or "none"


class Sheets(unittest.TestCase):
    """Sheets beside the book tell the same."""

    def test_sheets_beside_the_book(self):
        chance = random.Random(1)
        seen = {}
        for _ in range(60):
            book, plain, rows, expected = Book(), Plain(), [], []
            for deed in bounded(odd_begin(chance) + odd_deeds(chance, 60)):
                rows.append(row_text(deed))
                expected.append(deed_answer(told_by(book, deed)))
                plain.do(*deed)
                if chance.random() < 0.6:
                    words = odd_ask(chance)
                    rows.append(" ".join(str(word) for word in words))
                    expected.append(ask_answer(book, plain, words))
                    seen.setdefault(words[0], set()).add(expected[-1])
            self.assertLessEqual(len(rows), 160)
            self.assertEqual(run("\n".join(rows)), expected)
        for word, many in (("stands", 3), ("standing", 5), ("hands", 8), ("more", 5), ("row", 5), ("leans", 3),
                           ("splits", 2), ("seats", 4)):
            self.assertGreaterEqual(len(seen[word]), many, (word, seen[word]))

    def test_the_same_sheet_is_answered_the_same(self):
        chance = random.Random(2)
        for _ in range(10):
            rows = [row_text(deed) for deed in bounded(odd_begin(chance) + odd_deeds(chance, 20))]
            rows += [" ".join(str(word) for word in odd_ask(chance)) for _ in range(20)]
            text = "\n".join(rows)
            first = run(text)
            kept = list(first)
            second = run(text)
            self.assertEqual(first, second)
            first.clear()
            self.assertEqual(second, kept)


def book_told(book, days):
    """What is told of a book for certain, whoever asks: not which filling, which new ones, which cover."""
    told = {"house": book.house(), "names": book.names(), "count": book.count()}
    for day in days:
        told["standing", day] = book.standing(day)
        told["calls", day] = book.calls_on(day)
        told["carried", day] = carried(book, day)
        told["rows"] = [leaning_rows(book, leave[0], day) for leave in book.house()[2]]
        for name in book.names():
            told["hands", name, day] = book.hands_on(name, day)
            told["bearing", name, day] = bearing(book, name, day)
            told["filled", name, day] = len(book.filled_on(name, day)[0])
    for name in book.names():
        told["paper", name] = book.paper_of(name)
        told["days", name] = days_standing(book, name)
    told["splits"] = [splits(book, bound, days) for bound in (50, 61, 100) for days in (1, 3, 9)]
    return told


class Alike(unittest.TestCase):
    """A book called otherwise by other names, with days put forward, is told alike."""

    PLACES = {
        "give_rank": (4, 5), "end_rank": (2,), "give_leave": (4, 5), "end_leave": (2,), "put_paper": (4,), "sign": (4,),
        "draw_back": (3,),
    }

    def renamed(self, thing):
        """A thing with each NAME in it called otherwise, so that they rise as before."""
        if isinstance(thing, (tuple, list)):
            return type(thing)(self.renamed(inner) for inner in thing)
        return "n" + thing + "m" if isinstance(thing, str) and thing else thing

    def forward(self, deed, many):
        places = self.PLACES.get(deed[0], ())
        return tuple(thing + many if at in places else thing for at, thing in enumerate(deed))

    def test_other_names(self):
        chance = random.Random(3)
        for _ in range(20):
            deeds = odd_begin(chance) + odd_deeds(chance, 40)
            book, other = Book(), Book()
            for deed in deeds:
                told = told_by(book, deed)
                self.assertEqual(told_by(other, (deed[0],) + self.renamed(deed[1:])), told)
            first, second = book_told(book, DAYS), book_told(other, DAYS)
            for key in first:
                if isinstance(key, tuple) and key[0] in ("hands", "bearing", "filled", "paper", "days"):
                    self.assertEqual(second[(key[0], self.renamed(key[1])) + key[2:]], self.renamed(first[key]))
                else:
                    self.assertEqual(second[key], self.renamed(first[key]))

    def test_days_put_forward(self):
        chance = random.Random(4)
        for _ in range(20):
            deeds = odd_begin(chance) + odd_deeds(chance, 40)
            many = chance.choice((1, 7, 90000))
            book, other = Book(), Book()
            for deed in deeds:
                self.assertEqual(told_by(other, self.forward(deed, many)), told_by(book, deed))
            self.assertEqual(book.names(), other.names())
            for day in DAYS:
                self.assertEqual(other.standing(day + many), book.standing(day))
                self.assertEqual(other.calls_on(day + many), book.calls_on(day))
                self.assertEqual(carried(other, day + many), carried(book, day))
                for name in book.names():
                    self.assertEqual(bearing(other, name, day + many), bearing(book, name, day))
                    self.assertEqual(other.hands_on(name, day + many),
                                     [hand[:3] + (hand[3] + many,) for hand in book.hands_on(name, day)])
            for name in book.names():
                self.assertEqual(days_standing(other, name),
                                 [(first + many, None if last is None else last + many)
                                  for first, last in days_standing(book, name)])
            self.assertEqual(splits(other, 100, 3), splits(book, 100, 3))


class AnyDay(unittest.TestCase):
    """Asked as of any day: what was done to a paper behind that day makes no matter."""

    def test_deeds_of_later_days(self):
        chance = random.Random(5)
        left_out = 0
        for _ in range(30):
            book, plain = odd_book(chance, 50)
            for day in DAYS:
                ahead = [deed for deed in plain.deeds if deed[0] not in ("sign", "draw_back") or deed[-1] <= day]
                left_out += len(plain.deeds) - len(ahead)
                other = Book()
                do(other, *ahead)
                self.assertEqual(other.house(), book.house())
                self.assertEqual(other.standing(day), book.standing(day))
                self.assertEqual(carried(other, day), carried(book, day))
                for name in book.names():
                    self.assertEqual(other.hands_on(name, day), book.hands_on(name, day))
                    self.assertEqual(other.filled_on(name, day), book.filled_on(name, day))
                    self.assertEqual(bearing(other, name, day), bearing(book, name, day))
        self.assertGreater(left_out, 100)


class Leaves(unittest.TestCase):
    """A leave taken back fells just the papers that lean on it, and given again all is as it was."""

    def test_through_the_book(self):
        chance = random.Random(6)
        fell = 0
        for _ in range(100):
            book, plain = odd_book(chance, 30)
            before = all_told(book, DAYS)
            del before["count"]
            for n in [leave[0] for leave in book.house()[2]]:
                leans = {day: leaning(book, n, day) for day in DAYS}
                book.take_back(n)
                for day in DAYS:
                    left = [name for name in before["standing", day] if name not in leans[day]]
                    self.assertEqual(book.standing(day), left)
                    fell += len(leans[day])
                book.give_again(n)
                after = all_told(book, DAYS)
                del after["count"]
                self.assertEqual(after, before)
        self.assertGreater(fell, 20)

    def test_through_sheets(self):
        chance = random.Random(7)
        fell = 0
        for _ in range(100):
            rows = [row_text(deed) for deed in bounded(odd_begin(chance) + odd_deeds(chance, 20))]
            for n in range(7):
                more = ["standing 9", f"leans {n} 9", f"back {n}", "standing 9", f"again {n}", "standing 9"]
                first, leans, back, left, again, last = run("\n".join(rows + more))[-6:]
                if back != "done":
                    self.assertIn(leans, ("none", "no leave"))
                    continue
                expected = [name for name in first.split(" ") if name not in leans.split(" ")]
                self.assertEqual(left, " ".join(expected) or "none")
                self.assertEqual((again, last), ("done", first))
                fell += leans != "none"
        self.assertGreater(fell, 10)


class Further(unittest.TestCase):
    """How many further hands a paper needs is told, the fewest, and from whom: signed, the paper stands."""

    def test_signed_as_told(self):
        chance = random.Random(8)
        signed = 0
        for _ in range(80):
            book, plain = odd_book(chance, 30)
            for name, many in book.calls_on(12):
                told = book.more_on(name, 12)
                if many is None:
                    self.assertEqual(told[0], "none")
                    continue
                self.assertEqual(len(told[1]), many)
                for at, (holder, signer) in enumerate(told[1]):
                    self.assertFalse(book.stands_on(name, 12))
                    self.assertIn((name, many - at), book.calls_on(12))
                    book.sign(name, holder, signer, 12)
                    signed += 1
                self.assertTrue(book.stands_on(name, 12))
                self.assertEqual(book.more_on(name, 12)[1], [])
        self.assertGreater(signed, 20)

    def test_sides_come_into_no_row(self):
        chance = random.Random(9)
        for _ in range(40):
            book, plain = odd_book(chance, 40)
            for name in book.names():
                part, many, asker, getter, day = book.paper_of(name)
                told = asked(book.more_on, name, 13)
                if told[0] == "more":
                    self.assertFalse({who for pair in told[1] for who in pair} & {asker, getter})
                for n in [hand[0] for hand in book.hands_on(name, 13) if {asker, getter} & set(hand[1:3])]:
                    self.assertNotIn(n, [hand for seat, hand in book.filled_on(name, 13)[0]])
                    self.assertNotIn(n, bearing(book, name, 13))


class Splits(unittest.TestCase):
    """Split papers are found together, and none else."""

    def test_told_and_asked(self):
        chance = random.Random(10)
        found = 0
        for _ in range(60):
            book, plain = odd_book(chance, 20)
            told = splits(book, 61, 5)
            for names in told:
                self.assertTrue(is_split(book, 61, 5, names[::-1]))
                rows = [book.paper_of(name) for name in names]
                self.assertEqual(len({(row[0], row[2]) for row in rows}), 1)
                found += 1
            for names in ([], ["ink"], ["ink", "pen"], ["ink", "pen", "wax"]):
                if set(names) <= set(book.names()):
                    self.assertIs(is_split(book, 61, 5, names), names in told)
        self.assertGreater(found, 3)


class Own(unittest.TestCase):
    """[2]: nothing that is handed in is changed, and asks change nothing."""

    def test_asks_of_a_book(self):
        chance = random.Random(11)
        for _ in range(10):
            book, plain = odd_book(chance, 40)
            before = all_told(book, DAYS)
            first = book_told(book, DAYS)
            self.assertEqual(first, book_told(book, DAYS))
            self.assertEqual(all_told(book, DAYS), before)
            kept = copy.deepcopy(first)
            for deed in odd_deeds(chance, 20, 11):
                told_by(book, deed)
            self.assertEqual(first, kept)


if __name__ == "__main__":
    unittest.main()
