"""Parts of a house, and the parts within which they lie."""


def parts_over(house, part):
    """The list of a part and all within which it lies, itself first; [] of what is no part."""
    outer = {name: within for name, within in house[0]}
    over = []
    # The empty text is no part, so it ends the walk as a strange part does.
    while part in outer:
        over.append(part)
        part = outer[part]
    return over
