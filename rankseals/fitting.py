"""Which seats a paper has, and whether a hand may fill one."""

from rankseals.leaves import row_of
from rankseals.ranks import rank_of
from rankseals.rules import seats_of


def seats_for(house, paper):
    """The tuple of the seats of a paper."""
    return seats_of(house, paper[0], paper[1])


def may_fill(house, paper, seat, hand):
    """Whether the hand has a row and its holder, on the hand's day, the rank that the seat asks."""
    rank, part = seat
    holder, signer, day = hand
    if rank_of(house, holder, part, day) < rank:
        return False
    return row_of(house, paper, holder, signer, day) is not None
