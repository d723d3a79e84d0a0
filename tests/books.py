"""Books that the tests share, and a plain one that does all its deeds anew for each question."""

import copy
import unittest

from rankseals import errors
from rankseals.book import Book
from rankseals.fillcheck import shows_filled
from rankseals.furthercheck import shows_more
from tests.samples import PARTS, fewest_news, fit_pairs, most_filled, seats_by_words

DEEDS = (
    "add_part", "give_rank", "give_leave", "end_rank", "end_leave", "take_back", "give_again", "set_rule",
    "drop_rule", "put_paper", "sign", "draw_back",
)


def do(book, *rows):
    """Does deeds (word, thing ..) one behind the other; the list of what they told."""
    return [getattr(book, word)(*things) for word, *things in rows]


def book_of(*rows):
    """A book with the sample's parts, in which these deeds were done."""
    book = Book()
    do(book, *[("add_part", part, within) for part, within in PARTS], *rows)
    return book


def small_book():
    """A book in which each kind of thing is there: ranks, leaves, one of them taken back, rules, papers, hands."""
    return book_of(
        ("give_rank", "anna", 5, "p", 0, 90), ("give_rank", "bert", 3, "q", 10, 90),
        ("give_rank", "cleo", 3, "q", 0, 50),
        ("give_leave", "anna", "dora", "p", 0, 80, 500), ("give_leave", "bert", "ezra", "q", 10, 40, 100),
        ("give_leave", "cleo", "fay", "q", 0, 99, 900), ("take_back", 2),
        ("set_rule", "p", 0, ((3, ""),)), ("set_rule", "q", 100, ((3, ""), (5, "p"))),
        ("put_paper", "ink", "q", 100, 10, "xena", "yves"), ("put_paper", "pen", "q", 99, 12, "xena", "xena"),
        ("put_paper", "wax", "r", 7, 20, "yves", "zoe"),
        ("sign", "ink", "anna", "dora", 15), ("sign", "ink", "bert", "bert", 20), ("draw_back", "ink", 0, 30),
        ("sign", "wax", "cleo", "fay", 20), ("sign", "ink", "anna", "anna", 30),
    )


def asked(ask, *things):
    """What an ask tells, or the name of its refusal."""
    try:
        return ask(*things)
    except errors.SealError as refusal:
        return type(refusal).__name__


def all_told(book, days=(0, 9, 10, 12, 15, 19, 20, 25, 29, 30, 40, 91, 99999)):
    """All that may be asked of a book, as a dict; of strange papers, too."""
    told = {"house": book.house(), "names": book.names(), "count": book.count()}
    for name in book.names() + ["nopaper"]:
        told["paper_of", name] = asked(book.paper_of, name)
        for day in days:
            for word in ("hands_on", "stands_on", "filled_on", "more_on"):
                told[word, name, day] = asked(getattr(book, word), name, day)
    for day in days:
        told["standing", day] = book.standing(day)
        told["calls_on", day] = book.calls_on(day)
    return told


class BookCase(unittest.TestCase):
    def refused(self, kind, book, word, *things):
        """That a deed or an ask is refused by just this kind, and that nothing is changed by it."""
        before = all_told(book)
        with self.assertRaises(kind) as caught:
            getattr(book, word)(*things)
        self.assertEqual(type(caught.exception), kind)
        self.assertEqual(all_told(book), before)


class Plain:
    """A book by the plain words of [13] to [15]. It keeps nothing but the deeds that weren't refused."""

    def __init__(self, deeds=()):
        self.deeds = copy.deepcopy(list(deeds))

    def do(self, word, *things):
        """Does a deed, and tells its number or None; of a refused one the refusal's name."""
        if word == "undo":
            return self.deeds.pop() and None if self.deeds else "NoDeed"
        state = self.state()
        for due, name in self.refusals(state, word, things):
            if due():
                return name
        number = self.apply(state, word, things)
        self.deeds.append((word,) + things)
        return number

    def state(self):
        state = {"parts": {}, "ranks": [], "leaves": [], "rules": {}, "papers": {}}
        for word, *things in self.deeds:
            self.apply(state, word, things)
        return state

    def refusals(self, state, word, things):
        """The refusals of a deed in the order in which they're told, each behind its reason."""
        parts, ranks, leaves = state["parts"], state["ranks"], state["leaves"]
        rules, papers = state["rules"], state["papers"]
        if word == "add_part":
            part, within = things
            return [(lambda: part in parts, "Taken"), (lambda: within and within not in parts, "NoPart")]
        if word in ("give_rank", "give_leave"):
            return [(lambda: things[2] not in parts, "NoPart")]
        if word in ("end_rank", "end_leave"):
            rows, name = (ranks, "NoRank") if word == "end_rank" else (leaves, "NoLeave")
            return [(lambda: things[0] not in range(len(rows)), name),
                    (lambda: things[1] < rows[things[0]]["first"], "BadDay")]
        if word in ("take_back", "give_again"):
            is_back = word == "give_again"
            return [(lambda: things[0] not in [n for n, row in enumerate(leaves) if row["back"] == is_back], "NoLeave")]
        if word == "set_rule":
            named = [things[0]] + [part for _, part in things[2] if part]
            return [(lambda: any(part not in parts for part in named), "NoPart")]
        if word == "drop_rule":
            return [(lambda: tuple(things) not in rules, "NoRule")]
        if word == "put_paper":
            return [(lambda: things[0] in papers, "Taken"), (lambda: things[1] not in parts, "NoPart")]
        name, day = things[0], things[-1]
        hands = papers[name]["hands"] if name in papers else []
        none, early = (lambda: name not in papers, "NoPaper"), (lambda: day < max(papers[name]["told"]), "BadDay")
        if word == "sign":
            taken = [things[1] == hand["holder"] or things[2] == hand["signer"]
                     for hand in hands if hand["back"] is None]
            return [none, early, (lambda: any(taken), "Twice")]
        lying = [n for n, hand in enumerate(hands) if hand["back"] is None]
        return [none, (lambda: things[1] not in lying, "NoHand"), early]

    def apply(self, state, word, things):
        """Changes the state by a deed that isn't refused, and tells its number or None."""
        if word == "add_part":
            state["parts"][things[0]] = things[1]
        elif word == "give_rank":
            state["ranks"].append(dict(zip(("person", "rank", "part", "first", "last"), things)))
            return len(state["ranks"]) - 1
        elif word == "give_leave":
            state["leaves"].append(dict(zip(("giver", "taker", "part", "first", "last", "most"), things), back=False))
            return len(state["leaves"]) - 1
        elif word in ("end_rank", "end_leave"):
            state[word[4:] + "s" if word == "end_rank" else "leaves"][things[0]]["last"] = things[1]
        elif word in ("take_back", "give_again"):
            state["leaves"][things[0]]["back"] = word == "take_back"
        elif word == "set_rule":
            state["rules"][things[0], things[1]] = things[2]
        elif word == "drop_rule":
            del state["rules"][things[0], things[1]]
        elif word == "put_paper":
            name, part, many, day, asker, getter = things
            state["papers"][name] = {"paper": (part, many, asker, getter), "day": day, "told": [day], "hands": []}
        elif word == "sign":
            name, holder, signer, day = things
            paper = state["papers"][name]
            paper["hands"].append({"holder": holder, "signer": signer, "day": day, "back": None})
            paper["told"].append(day)
            return len(paper["hands"]) - 1
        else:
            name, n, day = things
            state["papers"][name]["hands"][n]["back"] = day
            state["papers"][name]["told"].append(day)
        return None

    def house(self):
        state = self.state()
        ranks = [(n, *row.values()) for n, row in enumerate(state["ranks"])]
        leaves = [(n, *list(row.values())[:6]) for n, row in enumerate(state["leaves"]) if not row["back"]]
        rules = [(part, many, seats) for (part, many), seats in state["rules"].items()]
        return (tuple(sorted(state["parts"].items())), tuple(ranks), tuple(leaves), tuple(sorted(rules)))

    def papers(self):
        return self.state()["papers"]

    def hands_on(self, name, day):
        return [(n, hand["holder"], hand["signer"], hand["day"]) for n, hand in enumerate(self.papers()[name]["hands"])
                if hand["day"] <= day and (hand["back"] is None or day < hand["back"])]

    def most_on(self, name, day):
        """How many seats the paper has, and how many are filled at most."""
        house, paper = self.house(), self.papers()[name]["paper"]
        hands = [hand[1:] for hand in self.hands_on(name, day)]
        seats = range(len(seats_by_words(house, paper)))
        return len(seats), most_filled(seats, fit_pairs(house, paper, hands))

    def stands_on(self, name, day):
        seats, most = self.most_on(name, day)
        return day >= self.papers()[name]["day"] and seats == most

    def fewest_on(self, name, day):
        """How many new ones the paper needs, None where none do, BadDay before the last told day."""
        paper = self.papers()[name]
        if day < max(paper["told"]):
            return "BadDay"
        return fewest_news(self.house(), paper["paper"], [hand[1:] for hand in self.hands_on(name, day)], day)


def check_told(case, book, plain, days):
    """That a book tells of these days what the plain one tells."""
    house, papers = plain.house(), plain.papers()
    case.assertEqual(book.house(), house)
    case.assertEqual(book.names(), sorted(papers))
    case.assertEqual(book.count(), len(plain.deeds))
    for name in sorted(papers):
        kept = papers[name]["paper"]
        case.assertEqual(book.paper_of(name), kept + (papers[name]["day"],))
        for day in days:
            check_paper(case, book, plain, (name, kept, day, house))
    for day in days:
        standing = [name for name in sorted(papers) if plain.stands_on(name, day)]
        case.assertEqual(book.standing(day), standing)
        calls = [(name, plain.fewest_on(name, day)) for name in sorted(papers)
                 if name not in standing and max(papers[name]["told"]) <= day]
        case.assertEqual(book.calls_on(day), calls)


def check_paper(case, book, plain, about):
    name, paper, day, house = about
    hands = plain.hands_on(name, day)
    bare = [hand[1:] for hand in hands]
    case.assertEqual(book.hands_on(name, day), hands)
    case.assertIs(book.stands_on(name, day), plain.stands_on(name, day))
    filling, cover = book.filled_on(name, day)
    numbers = [hand[0] for hand in hands]
    by_places = ([(seat, numbers.index(n)) for seat, n in filling], (cover[0], [numbers.index(n) for n in cover[1]]))
    case.assertTrue(shows_filled(house, paper, bare, by_places))
    case.assertEqual(len(filling), plain.most_on(name, day)[1])
    fewest, told = plain.fewest_on(name, day), asked(book.more_on, name, day)
    if fewest == "BadDay":
        case.assertEqual(told, "BadDay")
    else:
        case.assertTrue(shows_more(house, paper, bare, day, told))
        case.assertEqual(len(told[1]) if told[0] == "more" else None, fewest)


PEOPLE = "abcdex"
PAPERS = ("ink", "pen", "wax")


def odd_begin(chance):
    """Deeds by a seeded chance with which a book begins: parts, ranks, leaves, a rule, papers, and hands by leaves."""
    leaves = [odd_leave(chance, "p") for _ in range(7)]
    rows = [("add_part", part, within) for part, within in PARTS] + leaves
    rows += [odd_rank(chance, "p") for _ in range(5)] + [("give_rank", leaves[0][1], 3, "p", 0, 12)]
    rows.append(("set_rule", "p", 0, tuple((chance.choice((1, 1, 3)), "") for _ in range(chance.choice((1, 1, 2, 3))))))
    rows += [odd_paper(chance, name) for name in PAPERS]
    return rows + [("sign", name, *chance.choice(leaves[:2])[1:3], 4) for name in PAPERS]


def odd_deeds(chance, many, first=2, last=12):
    """So many deeds by a seeded chance, such as may be handed in, days going on; some will be refused."""
    return [odd_deed(chance, first + at * (last - first) // many) for at in range(many)]


def odd_rank(chance, part):
    first = chance.randint(0, 3)
    return "give_rank", chance.choice(PEOPLE), chance.choice((1, 3, 6)), part, first, first + chance.randint(2, 12)


def odd_pair(chance):
    """Two people, often those who stand side by side, so that signs and leaves often fit."""
    at = chance.randrange(len(PEOPLE) - 1)
    return tuple(PEOPLE[at:at + 2]) if chance.random() < 0.7 else tuple(chance.sample(PEOPLE, 2))


def odd_leave(chance, part):
    giver, taker = odd_pair(chance)
    first = chance.randint(0, 3)
    return "give_leave", giver, taker, part, first, first + chance.randint(2, 12), chance.choice((30, 60, 900))


def odd_paper(chance, name):
    return ("put_paper", name, chance.choice("pqrs"), chance.choice((0, 49, 60)), chance.randint(0, 4),
            chance.choice("xxe"), chance.choice("xy"))


def odd_rule(chance, part):
    odd = "nopart" if chance.random() < 0.2 else ""
    seats = [(chance.choice((1, 1, 3, 6)), chance.choice(("", "", "p", "q", odd))) for _ in range(chance.randint(0, 3))]
    return "set_rule", part, chance.choice((0, 0, 50)), tuple(seats)


def odd_deed(chance, clock):
    word = chance.choice(DEEDS + ("sign",) * 12 + ("draw_back", "give_leave", "give_rank", "undo"))
    part, n, day = chance.choice("pqrs"), chance.randint(0, 3), max(0, clock + chance.randint(-1, 1))
    if word == "add_part":
        return word, chance.choice("pv"), chance.choice(("", "p", "q", "nopart"))
    if word == "give_rank":
        return odd_rank(chance, chance.choice(("p", part, "nopart")))
    if word == "give_leave":
        return odd_leave(chance, chance.choice(("p", "p", part, "nopart")))
    if word in ("end_rank", "end_leave"):
        return word, chance.randint(0, 8), chance.choice((day, chance.randint(0, 12)))
    if word in ("take_back", "give_again"):
        return word, chance.randint(0, 5)
    if word == "set_rule":
        return odd_rule(chance, chance.choice((part, part, "nopart")))
    if word == "drop_rule":
        return word, part, chance.choice((0, 50))
    if word == "put_paper":
        return odd_paper(chance, chance.choice(PAPERS + ("cap",)))
    if word == "sign":
        holder, signer = odd_pair(chance)
        return word, chance.choice(PAPERS * 3 + ("cap",)), holder, chance.choice((holder, signer, signer)), day
    if word == "draw_back":
        return word, chance.choice(PAPERS * 3 + ("cap",)), n, day
    return ("undo",)


def told_by(book, row):
    """What a deed tells, or the name of its refusal."""
    word, *things = row
    return asked(getattr(book, word), *things)


def odd_book(chance, many):
    """A book and a plain one behind the same deeds by a seeded chance."""
    book, plain = Book(), Plain()
    for row in odd_begin(chance) + odd_deeds(chance, many):
        told_by(book, row)
        plain.do(*row)
    return book, plain
