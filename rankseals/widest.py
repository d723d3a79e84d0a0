"""The greatest sum for which there is a row."""

from rankseals.leaves import row_of

GREATEST_SUM = 10 ** 9


def most_of(house, part, sides, holder, signer, day):
    """The greatest sum of a paper of that part and these sides for which there is a row, or None."""
    asker, getter = sides
    for amount in sums_to_try(house):
        if row_of(house, (part, amount, asker, getter), holder, signer, day) is not None:
            return amount
    return None


def sums_to_try(house):
    """The sums at which some leave lets no more, and the greatest one, falling."""
    # Between two of these the same leaves let, so no other sum can be the answer.
    bounds = [min(leave[6], GREATEST_SUM) for leave in house[2]]
    return sorted([GREATEST_SUM] + bounds, reverse=True)
