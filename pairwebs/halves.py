"""Halves: a number from 0 to 2 for each tie, at most 2 at each place, and papers that no halves have a greater sum."""

from pairwebs.errors import TooGreat
from pairwebs.webs import is_number_from, must_be_web

MOST_HALVED = 6
MOST_DOUBLED = 4


def must_be_small(web, most):
    """Refuse what is no web, then a web of more than so many places."""
    must_be_web(web)
    if web[0] > most:
        raise TooGreat(web[0], most)


def are_up_to_two(thing, many):
    """Tell whether a thing is a tuple of so many whole numbers from 0 to 2."""
    if not isinstance(thing, tuple) or len(thing) != many:
        return False
    return all([is_number_from(number, 0, 2) for number in thing])


def put_to(sums, tie, number):
    """Tell the tuple of what each place's sum becomes where a number is put to both places of a tie."""
    return tuple([total + number if place in tie else total for place, total in enumerate(sums)])


def are_halves(web, thing):
    """Tell whether a thing is a tuple with 0, 1 or 2 for each tie that come to 2 at most at each place."""
    must_be_small(web, MOST_HALVED)
    if not are_up_to_two(thing, len(web[1])):
        return False
    sums = (0,) * web[0]
    for tie, number in zip(web[1], thing):
        sums = put_to(sums, tie, number)
    return max(sums) <= 2


def first_halves(web):
    """Tell the first halves of the greatest sum."""
    must_be_small(web, MOST_HALVED)
    # Those that come to the same at each place are gone on with alike, so just the first one of them is kept.
    firsts = {(0,) * web[0]: ()}
    for tie in web[1]:
        grown = {}
        for sums, halves in firsts.items():
            for number in range(3):
                more = put_to(sums, tie, number)
                if max(more) <= 2:
                    grown.setdefault(more, halves + (number,))
        firsts = grown
    best = max([sum(sums) for sums in firsts])
    return min([halves for sums, halves in firsts.items() if sum(sums) == best])


def most_halves(web):
    """Tell the greatest sum of halves."""
    return sum(first_halves(web))


def half_bound(web, thing):
    """Tell the sum of a half paper, None where a thing is none."""
    must_be_small(web, MOST_HALVED)
    if not are_up_to_two(thing, web[0]):
        return None
    return sum(thing) if all([thing[low] + thing[high] >= 2 for low, high in web[1]]) else None


def half_paper(web):
    """Tell the first half paper whose sum is as small as can be."""
    must_be_small(web, MOST_HALVED)
    found = [()]
    for place in range(web[0]):
        lows = [low for low, high in web[1] if high == place]
        found = [
            paper + (number,)
            for paper in found
            for number in range(3)
            if all([paper[low] + number >= 2 for low in lows])
        ]
    return min([(sum(paper), paper) for paper in found])[1]


def double(web):
    """Tell the web of twice as many places in which both places of each tie have one with the other's second self."""
    must_be_small(web, MOST_DOUBLED)
    many, ties = web
    return (2 * many, tuple(sorted([(one, other + many) for tie in ties for one, other in (tie, tie[::-1])])))
