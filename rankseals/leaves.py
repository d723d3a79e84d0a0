"""Who may sign for whom on a paper, by which row of leaves.

A way is a tuple (number, giver, taker) of a leave that a row may hold: it lets
on the paper and the day, and neither of the two is one of the paper's sides.
"""

from rankseals.parts import parts_over


def row_of(house, paper, holder, signer, day):
    """The shortest row, of equal ones the first as lists stand; None where there is none."""
    if is_side(paper, holder) or is_side(paper, signer):
        return None
    return first_row(ways_on(house, paper, day), holder, signer)


def signers_of(house, paper, holder, day):
    """The rising list of all signers who have a row for the holder."""
    if is_side(paper, holder):
        return []
    turned = [(number, taker, giver) for number, giver, taker in ways_on(house, paper, day)]
    return sorted(steps_to(turned, holder))


def leaves_in_all(house, paper, holder, signer, day):
    """The rising list of the leaves without each of which there would be no row."""
    row = row_of(house, paper, holder, signer, day)
    if row is None:
        return []
    ways = ways_on(house, paper, day)
    # A leave that is in all rows is in this one, so no other needs a look.
    return [number for number in sorted(row) if is_needed(ways, number, holder, signer)]


def is_needed(ways, number, holder, signer):
    others = [way for way in ways if way[0] != number]
    return first_row(others, holder, signer) is None


def is_side(paper, person):
    return person in paper[2:4]


def ways_on(house, paper, day):
    """The list of the ways on a paper and a day."""
    over = parts_over(house, paper[0])
    return [
        (number, giver, taker)
        for number, giver, taker, part, first, last, most in house[2]
        if part in over and first <= day <= last and paper[1] <= most
        and not is_side(paper, giver) and not is_side(paper, taker)
    ]


def first_row(ways, holder, signer):
    """The row of the fewest ways, of equal ones the first; None where there is none."""
    steps = steps_to(ways, signer)
    if holder not in steps:
        return None
    row = []
    while holder != signer:
        number, holder = nearer_way(ways, steps, holder)
        row.append(number)
    return row


def nearer_way(ways, steps, person):
    """The pair (number, taker) of the person's first way to somebody a step nearer."""
    return min([
        (number, taker)
        for number, giver, taker in ways
        if giver == person and taker in steps and steps[taker] < steps[person]
    ])


def steps_to(ways, signer):
    """How many ways it takes at least from each person to the signer, of all who come there."""
    steps = {signer: 0}
    newest = [signer]
    many = 0
    while newest:
        many += 1
        newest = sorted({giver for number, giver, taker in ways if taker in newest and giver not in steps})
        for person in newest:
            steps[person] = many
    return steps
