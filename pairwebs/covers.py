"""Covers: some ties of a web that have all its places."""

from pairwebs.pairings import loose_of
from pairwebs.webs import are_ties, must_be_web


def is_cover(web, thing):
    """Tell whether a thing is a rising tuple of ties of a web that have all its places."""
    must_be_web(web)
    return are_ties(web, thing) and not loose_of(web, thing)


def widened(web, ties):
    """Tell the list of what comes of ties where one more, of the first place that they leave out, is put to them."""
    place = loose_of(web, ties)[0]
    return [tuple(sorted(ties + (tie,))) for tie in web[1] if place in tie]


def first_cover(web):
    """Tell the first cover of as few ties as can be, None where a place has no tie."""
    must_be_web(web)
    if loose_of(web, web[1]):
        return None
    # Each cover has a tie of the first place left out, so none of the fewest ties is passed by.
    found = [()]
    while all([loose_of(web, ties) for ties in found]):
        found = sorted({more for ties in found for more in widened(web, ties)})
    return [ties for ties in found if not loose_of(web, ties)][0]


def fewest_cover(web):
    """Tell how many ties a cover has at least, None where a place has no tie."""
    cover = first_cover(web)
    return None if cover is None else len(cover)
