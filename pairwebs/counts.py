"""How many pairings a web has: by their ties, whole ones, with a tie, and as a row of numbers that has a worth."""

from pairwebs.errors import NoNumber
from pairwebs.pairings import all_pairings
from pairwebs.webs import is_number, must_be_web, must_have_tie, tie_of


def by_ties(web):
    """Tell the list of how many pairings have no tie, one, two and so on, up to the greatest ones."""
    sizes = [len(pairing) for pairing in all_pairings(web)]
    return [sizes.count(size) for size in range(max(sizes) + 1)]


def whole_pairings(web):
    """Tell the rising list of the pairings that leave no place loose."""
    return [pairing for pairing in all_pairings(web) if 2 * len(pairing) == web[0]]


def whole_many(web):
    """Tell how many whole pairings a web has."""
    return len(whole_pairings(web))


def with_tie(web, one, other):
    """Tell how many pairings have the tie of two places, told in either order."""
    must_be_web(web)
    must_have_tie(web, one, other)
    return len([pairing for pairing in all_pairings(web) if tie_of(one, other) in pairing])


def row_of(web):
    """Tell the row of a web: how many pairings leave no place loose, one, two and so on, with signs by their ties."""
    counts = by_ties(web)
    numbers = [0] * (web[0] + 1)
    for size, many in enumerate(counts):
        numbers[web[0] - 2 * size] = -many if size & 1 == 1 else many
    return numbers


def worth(web, x):
    """Tell the sum of the row's numbers, each times x so often taken by itself as its place tells."""
    must_be_web(web)
    if not is_number(x):
        raise NoNumber("this is no whole number")
    total = 0
    for number in reversed(row_of(web)):
        total = total * x + number
    return total
