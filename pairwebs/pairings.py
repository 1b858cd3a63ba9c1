"""Pairings: some of a web's ties, no two of which have a place in common."""

from pairwebs.errors import NoPairing
from pairwebs.webs import are_ties, are_unlike, must_be_place, must_be_web


def is_pairing(web, thing):
    """Tell whether a thing is a pairing of a web."""
    must_be_web(web)
    return are_ties(web, thing) and are_unlike([place for tie in thing for place in tie])


def must_be_pairing(web, thing):
    """Refuse what is no web, then what is no pairing of it."""
    if not is_pairing(web, thing):
        raise NoPairing("this is no pairing of the web")


def mate_of(pairing, place):
    """Tell the place that a pairing has paired with a place, None where it is loose."""
    for low, high in pairing:
        if place == low:
            return high
        if place == high:
            return low
    return None


def loose_of(web, ties):
    """Tell the rising tuple of the places of a web that are in none of some ties."""
    return tuple([place for place in range(web[0]) if mate_of(ties, place) is None])


def loose(web, pairing):
    """Tell the rising tuple of the loose places of a pairing."""
    must_be_pairing(web, pairing)
    return loose_of(web, pairing)


def mate(web, pairing, place):
    """Tell the place with which a place is paired, None where it is loose."""
    must_be_pairing(web, pairing)
    must_be_place(web, place)
    return mate_of(pairing, place)


def all_pairings(web):
    """Tell the rising list of all pairings of a web."""
    must_be_web(web)
    found = [()]
    # Behind each step these are the pairings of the places from this one on, so only pairings are ever made.
    for place in reversed(range(web[0])):
        ties = [tie for tie in web[1] if tie[0] == place]
        found = found + [(tie,) + pairing for tie in ties for pairing in found if mate_of(pairing, tie[1]) is None]
    return sorted(found)
