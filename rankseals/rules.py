"""Which seats a paper has, by its part and sum."""

from rankseals.parts import parts_over


def seats_of(house, part, amount):
    """The tuple of the seats (rank, part) that a paper of this part and sum has."""
    fitting = [(bound, seats) for bound, seats in rules_for(house, part) if bound <= amount]
    if not fitting:
        return ()
    # Sums of one part's rules are unlike, so the seats are never compared.
    bound, seats = max(fitting)
    return tuple([(rank, part if where == "" else where) for rank, where in seats])


def rules_for(house, part):
    """The list of (sum, seats) of the rules of the first of parts_over that has any."""
    # A part's own rules hide those over it even where all their sums are too great.
    for name in parts_over(house, part):
        found = [(bound, seats) for where, bound, seats in house[3] if where == name]
        if found:
            return found
    return []
