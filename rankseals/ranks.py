"""Who holds which rank, where and when."""

from rankseals.parts import parts_over


def rank_of(house, person, part, day):
    """The highest rank that the person holds on that day in the part or one over it; 0 where none."""
    over = parts_over(house, part)
    held = [
        rank
        for number, who, rank, where, first, last in house[1]
        if who == person and where in over and first <= day <= last
    ]
    return max(held, default=0)


def holders_of(house, rank, part, day):
    """The rising list of all whose rank_of in the part on that day is rank or higher."""
    people = sorted({row[1] for row in house[1]})
    return [person for person in people if rank_of(house, person, part, day) >= rank]
