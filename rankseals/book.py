"""The book: a house and papers that are changed by deeds, undone, and asked as of any day."""

from rankseals.errors import BadDay, NoDeed, NoHand, NoLeave, NoPaper, NoPart, NoRank, NoRule, Taken, Twice
from rankseals.filling import filled, stands
from rankseals.further import how_many, more_for
from rankseals.papers import (
    days_told, has_either, is_drawn_back, is_hand, last_day, lying_on, plain_hands, replaced, with_drawing_back,
    with_hand,
)


class Book:
    """Keeps a house, empty at first, and papers by NAMEs."""

    def __init__(self):
        # A page comes behind each deed, and none is ever changed: so undo takes the
        # last one away, and two books may have pages in common.
        self.pages = [{"parts": (), "ranks": (), "leaves": (), "back": (), "rules": (), "papers": {}}]

    def now(self, key):
        """What the last page has under this key."""
        return self.pages[-1][key]

    def turn(self, key, value):
        """A page more, like the last one but for this key."""
        page = dict(self.pages[-1])
        page[key] = value
        self.pages.append(page)

    def add_part(self, part, within):
        """A part more, within another one or, by the empty text, within none."""
        if self.has_part(part):
            raise Taken(f"the part {part} is there")
        if within != "":
            self.need_part(within)
        self.turn("parts", risen(self.now("parts"), (part, within)))

    def give_rank(self, person, rank, part, first, last):
        """The person holds this rank; tells its number."""
        self.need_part(part)
        ranks = self.now("ranks")
        number = len(ranks)
        self.turn("ranks", ranks + ((number, person, rank, part, first, last),))
        return number

    def give_leave(self, giver, taker, part, first, last, most):
        """The giver lets the taker sign in their stead; tells the leave's number."""
        self.need_part(part)
        leaves = self.now("leaves")
        number = len(leaves)
        self.turn("leaves", leaves + ((number, giver, taker, part, first, last, most),))
        return number

    def end_rank(self, n, last):
        """The rank's last day is this one from now on."""
        ranks = self.now("ranks")
        if not 0 <= n < len(ranks):
            raise NoRank(f"there is no rank {n}")
        self.turn("ranks", ended(ranks, n, last))

    def end_leave(self, n, last):
        """The leave's last day is this one from now on, whether it's taken back or not."""
        self.need_leave(n)
        self.turn("leaves", ended(self.now("leaves"), n, last))

    def take_back(self, n):
        """The leave counts for nothing until it's given again."""
        if self.is_back(n):
            raise NoLeave(f"the leave {n} is taken back")
        self.turn("back", self.now("back") + (n,))

    def give_again(self, n):
        """The leave that was taken back counts again."""
        if not self.is_back(n):
            raise NoLeave(f"the leave {n} is not taken back")
        self.turn("back", tuple([number for number in self.now("back") if number != n]))

    def set_rule(self, part, amount, seats):
        """Papers of this part, from this sum on, have these seats."""
        self.need_part(part)
        for rank, where in seats:
            if where != "":
                self.need_part(where)
        others = other_rules(self.now("rules"), part, amount)
        self.turn("rules", risen(others, (part, amount, tuple(seats))))

    def drop_rule(self, part, amount):
        """The rule of this part and sum is no more."""
        rules = self.now("rules")
        others = other_rules(rules, part, amount)
        if others == rules:
            raise NoRule(f"there is no rule of {part} and {amount}")
        self.turn("rules", others)

    def house(self):
        """The house as it is, without leaves that are taken back."""
        back = self.now("back")
        leaves = tuple([leave for leave in self.now("leaves") if leave[0] not in back])
        return self.now("parts"), self.now("ranks"), leaves, self.now("rules")

    def put_paper(self, name, part, amount, day, asker, getter):
        """A paper more."""
        if name in self.now("papers"):
            raise Taken(f"the paper {name} is there")
        self.need_part(part)
        self.keep_paper(name, ((part, amount, asker, getter), day, ()))

    def sign(self, name, holder, signer, day):
        """A hand more on a paper; tells its number."""
        kept = self.kept_paper(name)
        self.need_day(name, day)
        if has_either(kept, holder, signer):
            raise Twice(f"{holder} or {signer} has a hand on {name}")
        self.keep_paper(name, with_hand(kept, holder, signer, day))
        return len(kept[2])

    def draw_back(self, name, n, day):
        """The hand of that number lies no more from this day on."""
        kept = self.kept_paper(name)
        if not is_hand(kept, n) or is_drawn_back(kept, n):
            raise NoHand(f"no hand {n} lies on {name}")
        self.need_day(name, day)
        self.keep_paper(name, with_drawing_back(kept, n, day))

    def undo(self):
        """The last deed is as if it had never been."""
        if self.count() == 0:
            raise NoDeed("there is no deed to undo")
        self.pages.pop()

    def names(self):
        """The rising list of the papers."""
        return sorted(self.now("papers"))

    def paper_of(self, name):
        """The paper as a tuple (part, sum, asker, getter, day)."""
        paper, day, hands = self.kept_paper(name)
        return paper + (day,)

    def hands_on(self, name, day):
        """The rising list of (n, holder, signer, day) of the hands that lie on a day."""
        return lying_on(self.kept_paper(name), day)

    def stands_on(self, name, day):
        """Whether the paper is there on that day and stands by the hands that lie on it."""
        paper, first, hands = self.kept_paper(name)
        return first <= day and stands(self.house(), paper, plain_hands(self.hands_on(name, day)))

    def filled_on(self, name, day):
        """A pair (filling, cover) as filled tells it, with the hands' numbers in the place of places."""
        lying = self.hands_on(name, day)
        numbers = [hand[0] for hand in lying]
        filling, cover = filled(self.house(), self.kept_paper(name)[0], plain_hands(lying))
        seats, covered = cover
        return [(seat, numbers[at]) for seat, at in filling], (seats, [numbers[at] for at in covered])

    def more_on(self, name, day):
        """The fewest new hands as more_for tells them, hands by places."""
        paper, first, hands = self.kept_paper(name)
        self.need_day(name, day)
        return more_for(self.house(), paper, plain_hands(self.hands_on(name, day)), day)

    def standing(self, day):
        """The rising list of the papers that stand on a day."""
        return [name for name in self.names() if self.stands_on(name, day)]

    def calls_on(self, day):
        """The rising list of (name, many) of the papers that need more; many is None where none do."""
        return [
            (name, how_many(self.more_on(name, day)))
            for name in self.names()
            if last_day(self.kept_paper(name)) <= day and not self.stands_on(name, day)
        ]

    def count(self):
        """How many deeds are done and not undone."""
        return len(self.pages) - 1

    def like(self):
        """A book of its own, the same in all."""
        other = Book()
        other.pages = list(self.pages)
        return other

    def is_back(self, n):
        """Whether the leave of that number is taken back."""
        self.need_leave(n)
        return n in self.now("back")

    def days_of(self, name):
        """The rising list of the days told of the paper: its own, those of hands and of drawings back."""
        return days_told(self.kept_paper(name))

    def hand_of(self, name, n):
        """The hand (holder, signer, day) of that number, drawn back or not."""
        kept = self.kept_paper(name)
        if not is_hand(kept, n):
            raise NoHand(f"there is no hand {n} on {name}")
        return kept[2][n][:3]

    def has_part(self, part):
        return part in [name for name, within in self.now("parts")]

    def need_part(self, part):
        if not self.has_part(part):
            raise NoPart(f"there is no part {part}")

    def need_leave(self, n):
        if not 0 <= n < len(self.now("leaves")):
            raise NoLeave(f"there is no leave {n}")

    def need_day(self, name, day):
        """Refuses a day before the last one told of the paper."""
        if day < last_day(self.kept_paper(name)):
            raise BadDay(f"a later day than {day} is told of {name}")

    def kept_paper(self, name):
        papers = self.now("papers")
        if name not in papers:
            raise NoPaper(f"there is no paper {name}")
        return papers[name]

    def keep_paper(self, name, kept):
        papers = dict(self.now("papers"))
        papers[name] = kept
        self.turn("papers", papers)


def risen(rows, row):
    """The rising tuple of these rows and one more."""
    return tuple(sorted(rows + (row,)))


def ended(rows, n, last):
    """The rows of ranks or of leaves, with another last day of the one of that number."""
    # Ranks and leaves have their first and last days in the same places.
    row = rows[n]
    if last < row[4]:
        raise BadDay(f"the day {last} is before the first one")
    return replaced(rows, n, row[:5] + (last,) + row[6:])


def other_rules(rules, part, amount):
    """The tuple of the rules but that of this part and sum."""
    return tuple([rule for rule in rules if rule[:2] != (part, amount)])
