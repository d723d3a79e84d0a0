"""Which seats of a paper its hands fill.

To fill seats is to find paths from seats to hands without a common node; what
cuts all these paths is a cover. Nodes are pairs ("seat", number), ("hand", number).
"""

from rankseals.fitting import may_fill, seats_for
from rankseals.paths import most_paths


def filled(house, paper, hands):
    """A pair (filling, cover), the cover with as many numbers as the filling has pairs."""
    seats = seats_for(house, paper)
    after, cut = paths_to_hands(links_to_hands(house, paper, seats, hands), seats, hands)
    filling = sorted([(seat[1], hand[1]) for seat, hand in after.items()])
    return filling, cover_of(cut)


def stands(house, paper, hands):
    """Whether the hands fill all seats of the paper."""
    filling, cover = filled(house, paper, hands)
    return len(filling) == len(seats_for(house, paper))


def open_seats(house, paper, hands):
    """The rising list of the numbers of the seats that some greatest filling leaves unfilled."""
    filling, cover = filled(house, paper, hands)
    # What isn't in this cover is what the search for one path more could leave:
    # a seat that is unfilled, or whose hand may go to one that can be left so.
    many = len(seats_for(house, paper))
    return [seat for seat in range(many) if seat not in cover[0]]


def links_to_hands(house, paper, seats, hands):
    """For each seat's node the list of the nodes of the hands that may fill it."""
    return {
        ("seat", at): [("hand", number) for number, hand in enumerate(hands) if may_fill(house, paper, seat, hand)]
        for at, seat in enumerate(seats)
    }


def paths_to_hands(links, seats, hands):
    """The paths of a greatest filling, and what cuts all."""
    return most_paths(links, nodes_of("seat", seats), nodes_of("hand", hands), {})


def nodes_of(kind, things):
    return [(kind, at) for at in range(len(things))]


def cover_of(cut):
    return named(cut, "seat"), named(cut, "hand")


def named(cut, kind):
    """The rising list of the numbers or names of the nodes of this kind."""
    return sorted([name for what, name in cut if what == kind])
