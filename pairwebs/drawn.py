"""Places drawn together to one, and pairings led back to what the web was ahead of that."""

from pairwebs.blooms import must_be_ring
from pairwebs.errors import NoWay
from pairwebs.pairings import mate_of, must_be_pairing
from pairwebs.ways import ties_along
from pairwebs.webs import are_unlike, have_tie, must_be_one_at_least, must_be_web, tie_of


def new_names(web, some):
    """Tell the tuple of each place's new number where some are drawn together."""
    must_be_web(web)
    must_be_one_at_least(web, some)
    kept = [place for place in range(web[0]) if place == some[0] or place not in some]
    return tuple([kept.index(some[0] if place in some else place) for place in range(web[0])])


def new_ties(names, ties):
    """Tell the rising tuple of ties by new names, without those that go between two of one new name."""
    return tuple(sorted({tie_of(names[low], names[high]) for low, high in ties if names[low] != names[high]}))


def drawn(web, some):
    """Tell the web where some are drawn together."""
    names = new_names(web, some)
    return (max(names) + 1, new_ties(names, web[1]))


def drawn_pairing(web, pairing, some):
    """Tell the new ties of a pairing where some are drawn together."""
    must_be_pairing(web, pairing)
    ties = new_ties(new_names(web, some), pairing)
    if not are_unlike([place for tie in ties for place in tie]):
        raise NoWay("two of the new ties have a place in common")
    return ties


def paired_round(ring, base):
    """Tell the list of ties that pair all places of an odd ring but its base around the ring."""
    at = ring.index(base)
    return ties_along(ring[at + 1:] + ring[:at])[::2]


def led_back(web, ring, pairing):
    """Tell the pairing of a web that comes of one of the web with an odd ring's places drawn together."""
    must_be_ring(web, ring)
    some = tuple(sorted(ring))
    must_be_pairing(drawn(web, some), pairing)
    names = new_names(web, some)
    joint = names[some[0]]
    base = some[0]
    held = [(names.index(low), names.index(high)) for low, high in pairing if joint != low and joint != high]
    far = mate_of(pairing, joint)
    if far is not None:
        beyond = names.index(far)
        base = min([place for place in ring if have_tie(web, place, beyond)])
        held.append(tie_of(base, beyond))
    return tuple(sorted(held + paired_round(ring, base)))
