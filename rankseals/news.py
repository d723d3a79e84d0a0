"""Who is free to be the holder or the signer of a new hand."""

from rankseals.leaves import signers_of
from rankseals.ranks import holders_of


def free_holders(house, hands, seat, day):
    """The rising list of those who have the rank that the seat asks and are no hand's holder."""
    rank, part = seat
    taken = [hand[0] for hand in hands]
    return [person for person in holders_of(house, rank, part, day) if person not in taken]


def free_signers(house, paper, hands, holder, day):
    """The rising list of those who have a row for the holder and are no hand's signer."""
    taken = [hand[1] for hand in hands]
    return [person for person in signers_of(house, paper, holder, day) if person not in taken]
