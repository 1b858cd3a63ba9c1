"""Webs, their places and ties, and the pieces that ties hold together."""

from pairwebs.errors import NoPlace, NoPlaces, NoTie, NoWeb

MOST_PLACES = 8


def is_number(thing):
    """Tell whether a thing is a whole number: True and False are ints to Python, but no numbers here."""
    return isinstance(thing, int) and not isinstance(thing, bool)


def is_number_from(thing, low, high):
    """Tell whether a thing is a whole number from low to high."""
    return is_number(thing) and low <= thing <= high


def is_place(many, thing):
    """Tell whether a thing is one of so many places."""
    return is_number_from(thing, 0, many - 1)


def is_rising(things):
    """Tell whether each thing is greater than the one ahead; they must be of kinds that compare."""
    return all([one < other for one, other in zip(things, things[1:])])


def are_places(many, thing):
    """Tell whether a thing is a tuple of nothing but places, in whatever order, of so many."""
    return isinstance(thing, tuple) and all([is_place(many, place) for place in thing])


def are_unlike(things):
    """Tell whether none of some places, or of some tuples of places, stands twice."""
    return len(set(things)) == len(things)


def is_tie(many, thing):
    """Tell whether a thing is a tie of two of so many places."""
    return are_places(many, thing) and len(thing) == 2 and is_rising(thing)


def is_web(thing):
    """Tell whether a thing is a web."""
    if not isinstance(thing, tuple) or len(thing) != 2:
        return False
    many, ties = thing
    if not is_number_from(many, 1, MOST_PLACES) or not isinstance(ties, tuple):
        return False
    # Only ties are sure to compare with one another, so they are looked at first.
    return all([is_tie(many, tie) for tie in ties]) and is_rising(ties)


def is_some(web, thing):
    """Tell whether a thing is a rising tuple of places of a web."""
    return are_places(web[0], thing) and is_rising(thing)


def are_ties(web, thing):
    """Tell whether a thing is a rising tuple of ties of a web."""
    if not isinstance(thing, tuple):
        return False
    # True is equal to 1 and would be found among the web's ties, so each one must be a tie by itself, too.
    return all([is_tie(web[0], tie) and tie in web[1] for tie in thing]) and is_rising(thing)


def must_be_web(thing):
    """Refuse what is no web."""
    if not is_web(thing):
        raise NoWeb("this is no web")


def must_be_place(web, thing):
    """Refuse what is no place of a web."""
    if not is_place(web[0], thing):
        raise NoPlace("this is no place of the web")


def must_be_some(web, thing):
    """Refuse what is no rising tuple of places of a web."""
    if not is_some(web, thing):
        raise NoPlaces("this is no rising tuple of places of the web")


def must_be_one_at_least(web, thing):
    """Refuse what is no rising tuple of places of a web, and the one of none."""
    must_be_some(web, thing)
    if not thing:
        raise NoPlaces("one place at least is due")


def tie_of(one, other):
    """Tell the tie of two places that are told in either order."""
    return (min(one, other), max(one, other))


def have_tie(web, one, other):
    """Tell whether two places of a web have a tie, in either order."""
    return tie_of(one, other) in web[1]


def must_have_tie(web, one, other):
    """Refuse what are no places of a web, then two that have no tie; one place twice has none."""
    must_be_place(web, one)
    must_be_place(web, other)
    if not have_tie(web, one, other):
        raise NoTie("these two places have no tie")


def near(web, place):
    """Tell the rising tuple of the places that have a tie with a place."""
    must_be_web(web)
    must_be_place(web, place)
    return tuple([other for other in range(web[0]) if have_tie(web, place, other)])


def piece_of(web, left, start):
    """Tell the rising tuple of those of the places left that ties among these lead to from one of them."""
    reached = [start]
    waiting = [start]
    while waiting:
        here = waiting.pop()
        fresh = [place for place in left if place not in reached and have_tie(web, here, place)]
        reached.extend(fresh)
        waiting.extend(fresh)
    return tuple(sorted(reached))


def pieces_without(web, some):
    """Tell the rising list of the pieces of what is left when some places are left out."""
    must_be_web(web)
    must_be_some(web, some)
    left = [place for place in range(web[0]) if place not in some]
    found = []
    for place in left:
        if not any([place in piece for piece in found]):
            found.append(piece_of(web, left, place))
    return found


def pieces(web):
    """Tell the rising list of the pieces of a web."""
    return pieces_without(web, ())
