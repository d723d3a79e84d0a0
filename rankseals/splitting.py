"""Papers that were split to pass beneath a bound."""


def splits(book, bound, days):
    """The rising list of the rising lists of names of papers that pass a bound together, within these days."""
    return sorted([
        names for papers in alike_papers(book, bound) for names in longest_lists(papers, bound, days)
    ])


def is_split(book, bound, days, names):
    """Whether a list of names of papers, in any order, is one of those that were split."""
    if not isinstance(names, list) or not all([isinstance(name, str) for name in names]):
        return False
    # To ask for each paper refuses a name that is none, even where the list could be no split.
    for name in names:
        book.paper_of(name)
    return sorted(names) in splits(book, bound, days)


def alike_papers(book, bound):
    """Lists of (name, sum, day) of the papers below the bound, one list for each asker and part."""
    groups = {}
    for name in book.names():
        part, amount, asker, getter, day = book.paper_of(name)
        if amount < bound:
            groups.setdefault((asker, part), []).append((name, amount, day))
    return list(groups.values())


def longest_lists(papers, bound, days):
    """The lists of names of papers alike that pass the bound together and are within no other such list."""
    # A list that begins on some day is within the one of all papers of its days,
    # so no other list than these can be a longest one.
    firsts = sorted({day for name, amount, day in papers})
    lists = [names_within(papers, bound, first, days) for first in firsts]
    return [names for names in lists if names and not is_within_another(names, lists)]


def names_within(papers, bound, first, days):
    """The rising list of the papers' names from a day on, so many days; [] where they don't pass the bound."""
    found = [(name, amount) for name, amount, day in papers if first <= day < first + days]
    if sum([amount for name, amount in found]) < bound:
        return []
    return [name for name, amount in found]


def is_within_another(names, lists):
    return any([other != names and all([name in other for name in names]) for other in lists])
