"""Two sides of a web, such that no tie stays on one of them, or an odd ring that shows that there are none."""

from pairwebs.blooms import is_ring
from pairwebs.errors import NoSides
from pairwebs.papers import all_some
from pairwebs.webs import have_tie, must_be_some, must_be_web, near, pieces


def near_some(web, some):
    """Tell the rising tuple of the places that have a tie with one of some."""
    must_be_web(web)
    must_be_some(web, some)
    return tuple([place for place in range(web[0]) if any([have_tie(web, place, other) for other in some])])


def sides(web):
    """Tell the two sides of a web, the least place of each piece on the left, None where there are none."""
    left = tuple([piece[0] for piece in pieces(web)])
    right = near_some(web, left)
    back = near_some(web, right)
    while not all([place in left for place in back]):
        left = tuple(sorted(set(left) | set(back)))
        right = near_some(web, left)
        back = near_some(web, right)
    # A place that is reached by an even and by an odd number of ties belongs to neither side.
    return None if any([place in left for place in right]) else (left, right)


def odd_ring(web):
    """Tell the first odd ring of as few places as can be, None where there is none."""
    must_be_web(web)
    rows = [(place,) for place in range(web[0])]
    # The rows of each length rise, and none has a place less than its first one.
    while rows:
        rings = [places for places in rows if is_ring(web, places)]
        if rings:
            return rings[0]
        rows = [
            places + (place,)
            for places in rows
            for place in near(web, places[-1])
            if place > places[0] and place not in places
        ]
    return None


def lack(web):
    """Tell the greatest number that some of the left side lack, and the first some that lack so many."""
    both = sides(web)
    if both is None:
        raise NoSides("the web has no two sides")
    somes = [some for some in all_some(web) if all([place in both[0] for place in some])]
    lacks = [len(some) - len(near_some(web, some)) for some in somes]
    return (max(lacks), somes[lacks.index(max(lacks))])
