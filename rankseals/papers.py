"""A paper as the book keeps it: a tuple (paper, day, hands), never changed.

The paper is a tuple (part, sum, asker, getter), the day the one on which it was
put. hands has, in the order of their numbers, a tuple (holder, signer, day, back)
for each hand; back is the day of its drawing back, None where there was none.
"""


def days_told(kept):
    """The rising list of the days told of a paper: its own, those of hands and of drawings back."""
    paper, day, hands = kept
    backs = [hand[3] for hand in hands if hand[3] is not None]
    return sorted(set([day] + [hand[2] for hand in hands] + backs))


def last_day(kept):
    return max(days_told(kept))


def lying_on(kept, day):
    """The rising list of (n, holder, signer, day) of the hands that lie on a day."""
    return [
        (n, holder, signer, first)
        for n, (holder, signer, first, back) in enumerate(kept[2])
        if first <= day and (back is None or day < back)
    ]


def plain_hands(lying):
    """The list of these hands without their numbers."""
    return [(holder, signer, day) for n, holder, signer, day in lying]


def is_hand(kept, n):
    """Whether there is a hand of that number, drawn back or not."""
    return 0 <= n < len(kept[2])


def is_drawn_back(kept, n):
    return kept[2][n][3] is not None


def has_either(kept, holder, signer):
    """Whether a hand that isn't drawn back has this holder or this signer."""
    left = [hand for hand in kept[2] if hand[3] is None]
    return any([hand[0] == holder or hand[1] == signer for hand in left])


def with_hand(kept, holder, signer, day):
    """The paper with one hand more."""
    paper, first, hands = kept
    return paper, first, hands + ((holder, signer, day, None),)


def with_drawing_back(kept, n, day):
    """The paper with the hand of that number drawn back on a day."""
    paper, first, hands = kept
    return paper, first, replaced(hands, n, hands[n][:3] + (day,))


def replaced(rows, n, row):
    """The tuple of these rows with another one in the place n."""
    return rows[:n] + (row,) + rows[n + 1:]
