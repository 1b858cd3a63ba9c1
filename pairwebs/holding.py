"""Some places that hold all ties: each tie has one of them."""

from pairwebs.pairings import must_be_pairing
from pairwebs.papers import all_some
from pairwebs.webs import is_some, must_be_some, must_be_web


def hold_all(web, some):
    """Tell whether each tie of a web has one of some."""
    return all([low in some or high in some for low, high in web[1]])


def holds_ties(web, some):
    """Tell whether some hold all ties."""
    must_be_web(web)
    must_be_some(web, some)
    return hold_all(web, some)


def first_holding(web):
    """Tell the first of the fewest places that hold all ties."""
    must_be_web(web)
    return min([(len(some), some) for some in all_some(web) if hold_all(web, some)])[1]


def fewest_holding(web):
    """Tell how many places hold all ties at least."""
    return len(first_holding(web))


def ties_paper(web, pairing, thing):
    """Tell whether a thing is some that hold all ties, as many as a pairing has ties."""
    must_be_pairing(web, pairing)
    return is_some(web, thing) and len(thing) == len(pairing) and hold_all(web, thing)
