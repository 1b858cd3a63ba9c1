"""Papers: some places that show that no pairing is greater."""

from pairwebs.greatest import most
from pairwebs.pairings import must_be_pairing
from pairwebs.webs import is_some, must_be_web, pieces_without


def odd_left(web, some):
    """Tell the rising list of the odd pieces of what is left without some."""
    return [piece for piece in pieces_without(web, some) if len(piece) & 1 == 1]


def bound(web, some):
    """Tell how many ties a pairing can have at most, as some show it."""
    odd = odd_left(web, some)
    return (web[0] + len(some) - len(odd)) // 2


def is_paper(web, pairing, thing):
    """Tell whether a thing is some that show that a pairing is greatest."""
    must_be_pairing(web, pairing)
    return is_some(web, thing) and bound(web, thing) == len(pairing)


def all_some(web):
    """Tell the rising list of all rising tuples of places of a web."""
    found = [()]
    for place in reversed(range(web[0])):
        found = found + [(place,) + some for some in found]
    return sorted(found)


def all_papers(web):
    """Tell the rising list of all some that show that the greatest pairings are greatest."""
    many = most(web)
    return [some for some in all_some(web) if bound(web, some) == many]


def paper_for(web):
    """Tell the first some that show that the greatest pairings are greatest."""
    return all_papers(web)[0]


def bar(web):
    """Tell the first some that leave more odd pieces than they are, None where there are none."""
    must_be_web(web)
    for some in all_some(web):
        if len(odd_left(web, some)) > len(some):
            return some
    return None
