"""Webs of some plain kinds, and two webs beside one another."""

from pairwebs.errors import NoNumber, TooGreat
from pairwebs.webs import MOST_PLACES, is_number_from, must_be_web


def must_be_count(thing, least):
    """Refuse what is no number of places, from the least one to the greatest that a web can have."""
    if not is_number_from(thing, least, MOST_PLACES):
        raise NoNumber(f"this is no whole number from {least} to {MOST_PLACES}")


def row(n):
    """Tell the web of n places in which each has a tie with the next one."""
    must_be_count(n, 1)
    return (n, tuple([(place, place + 1) for place in range(n - 1)]))


def ring(n):
    """Tell the row of n places with a tie of the last and the first one."""
    must_be_count(n, 3)
    many, ties = row(n)
    return (many, tuple(sorted(ties + ((0, n - 1),))))


def full(n):
    """Tell the web of n places with all ties."""
    must_be_count(n, 1)
    return (n, tuple([(low, high) for low in range(n) for high in range(low + 1, n)]))


def star(n):
    """Tell the web of n places with all ties of place 0."""
    must_be_count(n, 1)
    return (n, tuple([(0, place) for place in range(1, n)]))


def sides_web(a, b):
    """Tell the web of a and b places in which each of the first a has a tie with each of the b others."""
    must_be_count(a, 1)
    must_be_count(b, 1)
    many = a + b
    if many > MOST_PLACES:
        raise NoNumber(f"both together are more than {MOST_PLACES}")
    return (many, tuple([(left, right) for left in range(a) for right in range(a, many)]))


def beside(web, other):
    """Tell the web of both webs, the places of the other one numbered on behind those of the first."""
    must_be_web(web)
    must_be_web(other)
    ahead, ties = web
    behind, more = other
    many = ahead + behind
    if many > MOST_PLACES:
        raise TooGreat(many, MOST_PLACES)
    # Each moved tie begins behind all places of the first web, so the ties go on rising.
    moved = tuple([(low + ahead, high + ahead) for low, high in more])
    return (many, ties + moved)
