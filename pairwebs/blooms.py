"""Odd rings of a web, and blooms: odd rings with a stem that a pairing goes along by turns."""

from pairwebs.errors import NoRing
from pairwebs.pairings import mate_of, must_be_pairing
from pairwebs.ways import all_stems, go_by_turns, ties_along
from pairwebs.webs import are_places, are_unlike, have_tie, must_be_web


def ties_round(ring):
    """Tell the list of the ties of each place with the next one, and of the last one with the first one."""
    return ties_along(ring + ring[:1])


def is_ring(web, thing):
    """Tell whether a thing is an odd ring of a web."""
    must_be_web(web)
    if not are_places(web[0], thing) or not are_unlike(thing):
        return False
    if len(thing) < 3 or len(thing) & 1 == 0:
        return False
    return all([tie in web[1] for tie in ties_round(thing)])


def must_be_ring(web, thing):
    """Refuse what is no web, then what is no odd ring of it."""
    if not is_ring(web, thing):
        raise NoRing("this is no odd ring of the web")


def is_stem(web, pairing, thing):
    """Tell whether a thing is an odd number of unlike places that begin loose and go by turns."""
    if not are_places(web[0], thing) or not are_unlike(thing):
        return False
    if len(thing) & 1 == 0 or mate_of(pairing, thing[0]) is not None:
        return False
    return go_by_turns(web, pairing, ties_along(thing))


def is_bloom(web, pairing, thing):
    """Tell whether a thing is a bloom for a pairing."""
    must_be_pairing(web, pairing)
    if not isinstance(thing, tuple) or len(thing) != 2:
        return False
    stem, ring = thing
    if not is_stem(web, pairing, stem) or not is_ring(web, ring):
        return False
    if stem[-1] != ring[0] or ring[1] > ring[-1] or not are_unlike(stem + ring[1:]):
        return False
    return go_by_turns(web, pairing, ties_round(ring))


def all_blooms(web, pairing):
    """Tell the rising list of all blooms for a pairing."""
    must_be_pairing(web, pairing)
    # A ring less its last tie goes on by turns where its stem ends, so both together are a longer stem.
    return sorted([
        (both[:at + 1], both[at:])
        for both in all_stems(web, pairing)
        for at in range(0, len(both) - 2, 2)
        if both[at + 1] < both[-1] and have_tie(web, both[-1], both[at])
    ])


def first_bloom(web, pairing):
    """Tell the first bloom for a pairing, None where there is none."""
    found = all_blooms(web, pairing)
    return found[0] if found else None
