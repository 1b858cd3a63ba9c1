"""What the tests share: things of every kind, webs by plain listing, and a look at refusals."""

import copy
import itertools
import unittest

from pairwebs.errors import NoPairing, NoPlaces, NoWeb
from pairwebs.kinds import beside, full, ring, row, sides_web, star


def nested(depth, wrap):
    """A thing so deep, each level made by wrap of the one below it; a number by itself is one deep."""
    thing = 0
    for level in range(depth - 1):
        thing = wrap(thing)
    return thing


# Put in the place of a number, a tuple or a text, none of these leaves a web, a pairing or the like what it was.
SPOILS = [None, True, False, "", "0", [], [0], {}, {0: 0}, ((),), -9]


def spoiled(thing):
    """What comes of a thing where it, or anything at any place within it, is put aside for what spoils it."""
    found = [odd for odd in SPOILS if odd != thing] + [[thing], (thing,), {0: thing}]
    if isinstance(thing, tuple):
        found.append(list(thing))
        for at, inner in enumerate(thing):
            found.extend(thing[:at] + (odd,) + thing[at + 1:] for odd in spoiled(inner))
    elif isinstance(thing, int):
        found.extend(truth for truth in (True, False) if truth == thing)
    return found


# No web, no place and no tuple of places is among these, whatever the web.
NOTHINGS = [
    None, True, False, -1, 8, 9, 10 ** 30, -(10 ** 30), 9999999999999999999999999999999,
    "", " ", "0", "1", "(1, ())", "a\nb", "~", "none",
    [], [0], [1, []], [1, ()], [0, 1], [[0, 1]], [None],
    {}, {0: 1}, {1: ()}, {"0": 0}, {(1, ()): (1, ())},
    (None,), (True,), (False,), ("",), ("0",), ([],), ([0],), ({},), ((),), ((0,),), ((0, 1),),
    (-1,), (8,), (9,), (10 ** 30,), (1, 0), (0, 0), (0, 1, 1), (0, True), (0, None), (0, "1"), (0, [1]),
    ((1, ()),), (1, [], ()), (None, None), ("", ""),
    nested(10, lambda thing: (thing,)), nested(10, lambda thing: [thing]),
    nested(10, lambda thing: {0: thing}), nested(9, lambda thing: (1, thing)),
]

# These are no webs either, but may be places or tuples of places of some web.
NO_WEBS = NOTHINGS + [0, 1, 7, (), (0,), (1,), (0, 1), (0, 1, 2), (1, 2, 3, 4, 5, 6, 7)]

# A ring of three with a tail, a pair, and a place by itself.
MIXED = (7, ((0, 2), (0, 5), (1, 4), (2, 5), (3, 5)))

# The web of a stem of three places and a ring of five, and the pairing that goes along both.
FLOWER = (7, ((0, 1), (1, 2), (2, 3), (2, 6), (3, 4), (4, 5), (5, 6)))
ALONG = ((1, 2), (3, 4), (5, 6))

# Two stars whose midst places have a tie.
TWO_STARS = (8, ((0, 1), (0, 2), (0, 3), (0, 4), (1, 5), (1, 6), (1, 7)))

# No somes of the mixed web.
NO_PLACES = NOTHINGS + [
    0, 1, 7, (7,), (0, 7), (1, 2, 3, 4, 5, 6, 7), (2, 1), (3, 3), (0, 1, 2, 2), [1], [2, 4], (True, 2), (1, True),
    (0, 1, None), ("1",), (1, "2"), ((1,), (2,)), (1, [2]), {1: 1}, "12", (1, (2,)), (0, 1, 2, 3, 4, 5, 6, 7),
]

# No pairings of the mixed web; one thing is wrong with each of those that are added here.
NO_PAIRINGS = NOTHINGS + [
    0, 1, 7, (0,), (0, 2), (0, 1, 2),
    ((0, 3),), ((0, 2), (3, 4)), ((0, 7),), ((-1, 2),), ((6, 7),),
    ((2, 0),), ((0, 2), (4, 1)), ((1, 4), (0, 2)), ((3, 5), (1, 4), (0, 2)), ((1, 4), (1, 4)), ((0, 2), (0, 2)),
    ((0, 2), (0, 5)), ((0, 2), (2, 5)), ((0, 5), (3, 5)), ((0, 2), (1, 4), (2, 5)),
    [(0, 2)], ([0, 2],), [[0, 2]], ((0, 2), [1, 4]), [(0, 2), (1, 4)], {(0, 2): True}, {0: 2},
    ((False, 2),), ((True, 4),), ((0, 2), (True, 4)), ((0, True),), (True, 4),
    ((0,),), ((0, 2, 5),), ((0, 2), ()), ((0, 2), None), ((0, 2), 1), ((0, 2), "1-4"), ((0, 2), {1: 4}),
    ((0, 2), (1, None)), ((0, 2), (1, "4")), ((0, 2), (1, [4])), ((0, 2), (1, (4,))), (((0, 2),),), ("0-2",),
    ((0, 2), (1, 4), (3, 5), ()), (None, (0, 2)), ("", (1, 4)), ((0, 2), ((1, 4),)), (0, 2, 1, 4), "0-2",
]

OTHERS = [
    MIXED, FLOWER, TWO_STARS,
    (4, ((0, 1), (1, 2), (1, 3), (2, 3))),
    (6, ((0, 3), (1, 3), (2, 3), (2, 4), (4, 5))),
    (6, ((0, 1), (0, 2), (1, 2), (2, 3), (3, 4), (3, 5), (4, 5))),
    (7, ((0, 1), (0, 2), (1, 2), (2, 3), (3, 4), (3, 5), (4, 5), (5, 6))),
    (8, ((0, 4), (0, 7), (1, 4), (1, 5), (2, 5), (2, 6), (3, 6), (3, 7))),
    (8, ((0, 7), (1, 6), (1, 7), (2, 3), (2, 5), (3, 5), (4, 5), (5, 6))),
    (8, ((0, 3), (0, 4), (0, 5), (1, 4), (1, 6), (2, 4), (2, 7), (3, 4), (5, 6), (6, 7))),
]
KINDS = (
    [row(n) for n in range(1, 9)] + [ring(n) for n in range(3, 9)] + [star(n) for n in range(1, 9)]
    + [full(n) for n in range(1, 9)] + [(n, ()) for n in range(1, 9)]
    + [sides_web(1, 3), sides_web(2, 2), sides_web(2, 5), sides_web(3, 3), sides_web(4, 4), sides_web(3, 5)]
    + [beside(ring(3), row(2)), beside(ring(3), ring(5)), beside(row(3), star(4)), beside((2, ()), full(5))]
)
WEBS = KINDS + OTHERS


def all_webs(many):
    """Every web of so many places."""
    pairs = list(itertools.combinations(range(many), 2))
    webs = []
    for size in range(len(pairs) + 1):
        webs.extend((many, ties) for ties in itertools.combinations(pairs, size))
    return webs


def all_some(many):
    """Every rising tuple of some of so many places."""
    return [some for size in range(many + 1) for some in itertools.combinations(range(many), size)]


def joined(web, left):
    """The pieces of what is left, by joining again and again what a tie joins."""
    groups = [{place} for place in left]
    for low, high in web[1]:
        if low in left and high in left:
            met = [group for group in groups if low in group or high in group]
            groups = [group for group in groups if group not in met] + [set().union(*met)]
    return sorted(tuple(sorted(group)) for group in groups)


def plain_pairings(web):
    """All pairings of a web, by going through the sets of ties that are not too many."""
    return sorted(
        ties for size in range(web[0] // 2 + 1) for ties in itertools.combinations(web[1], size)
        if len({place for tie in ties for place in tie}) == 2 * size
    )


class Asking(unittest.TestCase):
    """A test case that can look at refusals, and at what asking does to what is handed in."""

    def refused(self, refusal, ask, *handed):
        """The question is refused with this very class, no other, twice alike, and changes nothing."""
        kept = copy.deepcopy(handed)
        for _ in range(2):
            try:
                answer = ask(*handed)
            except ValueError as error:
                self.assertIs(error.__class__, refusal, (ask.__name__, handed))
                last = error
            else:
                self.fail(f"{ask.__name__}{handed!r} is not refused but answered {answer!r}")
            self.assertEqual(repr(handed), repr(kept))
        return last

    def told(self, answer, ask, *handed):
        """The question has this answer, of the very kinds, twice alike, and changes nothing."""
        kept = copy.deepcopy(handed)
        for _ in range(2):
            # Texts of both tell True from 1 and a list from a tuple, at every depth.
            self.assertEqual(repr(ask(*handed)), repr(answer), (ask.__name__, handed))
            self.assertEqual(repr(handed), repr(kept))

    def own(self, ask, *handed):
        """The list told is the asker's own: whatever is done to it, the next answer is the same."""
        answer = ask(*handed)
        self.assertIsInstance(answer, list)
        kept = copy.deepcopy(answer)
        answer.append("mine")
        answer[0] = None
        self.told(kept, ask, *handed)
        answer.clear()
        self.told(kept, ask, *handed)

    def no_web(self, ask, *rests):
        """What is no web is refused as such, whatever stands behind it."""
        for thing in NO_WEBS:
            for rest in rests:
                self.refused(NoWeb, ask, thing, *rest)

    def no_pairing(self, ask, *rests):
        """What is no pairing of the mixed web is refused as such, whatever stands behind it."""
        for thing in NO_PAIRINGS:
            for rest in rests:
                self.refused(NoPairing, ask, MIXED, thing, *rest)

    def no_places(self, ask, things):
        """What are no some of the mixed web are refused as such."""
        for thing in things:
            self.refused(NoPlaces, ask, MIXED, thing)
