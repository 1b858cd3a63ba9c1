"""Ways: rows of places by which a pairing is made greater by one tie."""

from pairwebs.errors import NoWay
from pairwebs.pairings import loose_of, mate_of, must_be_pairing
from pairwebs.webs import are_places, are_unlike, have_tie, tie_of


def ties_along(places):
    """Tell the list of the ties of each place with the next one."""
    return [tie_of(one, other) for one, other in zip(places, places[1:])]


def go_by_turns(web, pairing, ties):
    """Tell whether all are ties of a web, by turns none of a pairing and one of it, the first one none."""
    turns = [(tie in pairing) == (at & 1 == 1) for at, tie in enumerate(ties)]
    return all(turns) and all([tie in web[1] for tie in ties])


def is_way(web, pairing, thing):
    """Tell whether a thing is a way for a pairing."""
    must_be_pairing(web, pairing)
    if not are_places(web[0], thing) or not are_unlike(thing):
        return False
    if len(thing) < 2 or len(thing) & 1 == 1:
        return False
    first, last = thing[0], thing[-1]
    if first > last or mate_of(pairing, first) is not None or mate_of(pairing, last) is not None:
        return False
    return go_by_turns(web, pairing, ties_along(thing))


def all_stems(web, pairing):
    """Tell the list of all tuples of an odd number of unlike places that begin loose and go by turns."""
    # Behind a tie that is none of the pairing a stem must go on to the mate, so it grows by two places.
    grown = [(place,) for place in loose_of(web, pairing)]
    found = []
    while grown:
        found += grown
        grown = [
            stem + (place, mate_of(pairing, place))
            for stem in grown
            for place in range(web[0])
            if place not in stem and have_tie(web, stem[-1], place) and mate_of(pairing, place) is not None
        ]
    return found


def all_ways(web, pairing):
    """Tell the rising list of all ways for a pairing."""
    must_be_pairing(web, pairing)
    ends = loose_of(web, pairing)
    stems = all_stems(web, pairing)
    return sorted([
        stem + (end,) for stem in stems for end in ends if stem[0] < end and have_tie(web, stem[-1], end)
    ])


def first_way(web, pairing):
    """Tell the first way for a pairing, None where there is none."""
    found = all_ways(web, pairing)
    return found[0] if found else None


def greater(web, pairing, way):
    """Tell the pairing without the way's ties that it has, and with those that it has not."""
    if not is_way(web, pairing, way):
        raise NoWay("this is no way for the pairing")
    return tuple(sorted(set(pairing) ^ set(ties_along(way))))
