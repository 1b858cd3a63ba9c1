"""Pairings made greater again and again, and what two pairings make up."""

from pairwebs.pairings import must_be_pairing
from pairwebs.ways import first_way, greater
from pairwebs.webs import near, pieces


def climb(web, pairing):
    """Tell the list of pairings, from this one on, each next one made greater by the first way of the one ahead."""
    climbed = [pairing]
    way = first_way(web, pairing)
    while way is not None:
        climbed.append(greater(web, climbed[-1], way))
        way = first_way(web, climbed[-1])
    return climbed


def walked(web, start):
    """Tell the tuple of places from a start on, each next one the least near the one ahead that is not yet in it."""
    places = []
    fresh = [start]
    while fresh:
        places.append(fresh[0])
        fresh = [place for place in near(web, fresh[0]) if place not in places]
    return tuple(places)


def parted(web, one, other):
    """Tell the rising list of the rows and rings that the ties in just one of two pairings make up."""
    must_be_pairing(web, one)
    must_be_pairing(web, other)
    between = (web[0], tuple(sorted(set(one) ^ set(other))))
    found = []
    for piece in pieces(between):
        ends = [place for place in piece if len(near(between, place)) == 1]
        if ends:
            found.append(("row", walked(between, ends[0])))
        elif len(piece) > 1:
            found.append(("ring", walked(between, piece[0])))
    return sorted(found)
