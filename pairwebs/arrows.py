"""Arrows: a sign for each tie of a web, and what whole pairings come to with these signs."""

from pairwebs.counts import whole_many, whole_pairings
from pairwebs.errors import NoArrows, TooGreat
from pairwebs.webs import is_number, must_be_web

MOST_TIES = 10


def are_arrows(web, thing):
    """Tell whether a thing is a tuple with 1 or -1 for each tie of a web."""
    must_be_web(web)
    if not isinstance(thing, tuple) or len(thing) != len(web[1]):
        return False
    return all([is_number(arrow) and abs(arrow) == 1 for arrow in thing])


def must_be_arrows(web, thing):
    """Refuse what is no web, then what are no arrows of it."""
    if not are_arrows(web, thing):
        raise NoArrows("these are no arrows of the web")


def sign_of(places):
    """Tell 1 or -1 as an even or an odd number of two places stand so that the greater one is ahead."""
    turned = [place for at, place in enumerate(places) for later in places[at + 1:] if place > later]
    return -1 if len(turned) & 1 == 1 else 1


def signs_come_to(web, arrows, pairings):
    """Tell the sum of the signs of some pairings, each times the arrows of its ties."""
    arrow_of = dict(zip(web[1], arrows))
    total = 0
    for pairing in pairings:
        sign = sign_of([place for tie in pairing for place in tie])
        for tie in pairing:
            sign = sign * arrow_of[tie]
        total += sign
    return total


def signed(web, arrows):
    """Tell the sum of the signs over all whole pairings, each times the arrows of its ties."""
    must_be_arrows(web, arrows)
    return signs_come_to(web, arrows, whole_pairings(web))


def table(web, arrows):
    """Tell the list of lists with each tie's arrow at [a][b], its opposite at [b][a], and 0 where there is no tie."""
    must_be_arrows(web, arrows)
    lines = [[0 for high in range(web[0])] for low in range(web[0])]
    for (low, high), arrow in zip(web[1], arrows):
        lines[low][high] = arrow
        lines[high][low] = -arrow
    return lines


def determinant(lines):
    """Tell the determinant of a list of as many lists as each of them has whole numbers."""
    sign = 1
    ahead = 1
    while lines:
        tops = [place for place, line in enumerate(lines) if line[0] != 0]
        if not tops:
            return 0
        at = tops[0]
        top = lines[at]
        # The line goes up past as many as stood ahead of it, and each step turns the sign.
        sign = -sign if at & 1 == 1 else sign
        # What one step multiplies in too often, the next one can divide out again without a rest.
        lines = [
            [(top[0] * number - line[0] * above) // ahead for number, above in zip(line[1:], top[1:])]
            for line in lines[:at] + lines[at + 1:]
        ]
        ahead = top[0]
    return sign * ahead


def table_worth(web, arrows):
    """Tell the determinant of the table."""
    return determinant(table(web, arrows))


def is_fair(web, arrows):
    """Tell whether what the signs come to, without its sign, is how many whole pairings there are."""
    return abs(signed(web, arrows)) == whole_many(web)


def all_arrows(many):
    """Tell the rising list of all tuples of 1 or -1 for so many ties."""
    found = [()]
    for place in range(many):
        found = [arrows + (arrow,) for arrows in found for arrow in (-1, 1)]
    return found


def first_fair(web):
    """Tell the first fair arrows of a web of few ties, None where there are none."""
    must_be_web(web)
    many = len(web[1])
    if many > MOST_TIES:
        raise TooGreat(many, MOST_TIES)
    wholes = whole_pairings(web)
    for arrows in all_arrows(many):
        if abs(signs_come_to(web, arrows, wholes)) == len(wholes):
            return arrows
    return None
