"""What the tests share: things of every kind, webs by plain listing, and a look at refusals."""

import copy
import itertools
import unittest


def nested(depth, wrap):
    """A thing so deep, each level made by wrap of the one below it; a number by itself is one deep."""
    thing = 0
    for level in range(depth - 1):
        thing = wrap(thing)
    return thing


# No web, no place and no tuple of places is among these, whatever the web.
NOTHINGS = [
    None, True, False, -1, 8, 9, 10 ** 30, -(10 ** 30), 9999999999999999999999999999999,
    "", " ", "0", "1", "(1, ())", "a\nb", "~", "none",
    [], [0], [1, []], [1, ()], [0, 1], [[0, 1]], [None],
    {}, {0: 1}, {1: ()}, {"0": 0}, {(1, ()): (1, ())},
    (None,), (True,), (False,), ("",), ("0",), ([],), ([0],), ({},), ((),), ((0,),), ((0, 1),),
    (-1,), (8,), (9,), (10 ** 30,), (1, 0), (0, 0), (0, 1, 1), (0, True), (0, None), (0, "1"), (0, [1]),
    ((1, ()),), (1, [], ()), (None, None), ("", ""),
    nested(10, lambda thing: (thing,)), nested(10, lambda thing: [thing]),
    nested(10, lambda thing: {0: thing}), nested(9, lambda thing: (1, thing)),
]

# These are no webs either, but may be places or tuples of places of some web.
NO_WEBS = NOTHINGS + [0, 1, 7, (), (0,), (1,), (0, 1), (0, 1, 2), (1, 2, 3, 4, 5, 6, 7)]


def all_webs(many):
    """Every web of so many places."""
    pairs = list(itertools.combinations(range(many), 2))
    webs = []
    for size in range(len(pairs) + 1):
        webs.extend((many, ties) for ties in itertools.combinations(pairs, size))
    return webs


def all_some(many):
    """Every rising tuple of some of so many places."""
    return [some for size in range(many + 1) for some in itertools.combinations(range(many), size)]


class Asking(unittest.TestCase):
    """A test case that can look at refusals, and at what asking does to what is handed in."""

    def refused(self, refusal, ask, *handed):
        """The question is refused with this very class, no other, twice alike, and changes nothing."""
        kept = copy.deepcopy(handed)
        for _ in range(2):
            try:
                answer = ask(*handed)
            except ValueError as error:
                self.assertIs(error.__class__, refusal, (ask.__name__, handed))
                last = error
            else:
                self.fail(f"{ask.__name__}{handed!r} is not refused but answered {answer!r}")
            self.assertEqual(repr(handed), repr(kept))
        return last

    def told(self, answer, ask, *handed):
        """The question has this answer, of the very kinds, twice alike, and changes nothing."""
        kept = copy.deepcopy(handed)
        for _ in range(2):
            # Texts of both tell True from 1 and a list from a tuple, at every depth.
            self.assertEqual(repr(ask(*handed)), repr(answer), (ask.__name__, handed))
            self.assertEqual(repr(handed), repr(kept))
