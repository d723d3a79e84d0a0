"""What leans on a leave or on a hand, and on which days a paper stands."""

from rankseals.filling import stands
from rankseals.leaves import leaves_in_all
from rankseals.papers import plain_hands


def leaning(book, n, day):
    """The rising list of the papers that stand on a day and would not if the leave n were taken back."""
    if book.is_back(n):
        return []
    other = book.like()
    other.take_back(n)
    return [name for name in book.standing(day) if not other.stands_on(name, day)]


def leaning_rows(book, n, day):
    """The rising list of (name, number) of the hands on a day that have a row, but none without the leave n."""
    book.need_leave(n)
    # A leave that is taken back is not in the house, so it's in no row.
    house = book.house()
    return [
        (name, number)
        for name in book.names()
        for number, holder, signer, when in book.hands_on(name, day)
        if n in leaves_in_all(house, bare_paper(book, name), holder, signer, when)
    ]


def carried(book, day):
    """The rising list of (n, many) of the leaves that aren't taken back, many papers leaning on each."""
    return [(leave[0], len(leaning(book, leave[0], day))) for leave in book.house()[2]]


def bearing(book, name, day):
    """The rising list of the numbers of the hands without each of which the paper would not stand on a day."""
    if not book.stands_on(name, day):
        return []
    lying = book.hands_on(name, day)
    return [hand[0] for hand in lying if not stands_without(book, name, lying, hand)]


def stands_without(book, name, lying, hand):
    others = [other for other in lying if other != hand]
    return stands(book.house(), bare_paper(book, name), plain_hands(others))


def bare_paper(book, name):
    """The paper without its day."""
    return book.paper_of(name)[:4]


def days_standing(book, name):
    """The rising list of the stretches (first, last) of days on which the paper stands; None for ever."""
    stretches = []
    first = None
    # Which hands lie changes on a told day alone, so it stands or not until the next.
    for day in book.days_of(name):
        is_standing = book.stands_on(name, day)
        if is_standing and first is None:
            first = day
        if not is_standing and first is not None:
            stretches.append((first, day - 1))
            first = None
    if first is not None:
        stretches.append((first, None))
    return stretches
