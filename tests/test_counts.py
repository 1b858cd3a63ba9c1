"""Tests of 7.1 and 7.2, and of 0.2 to 0.5 where they speak of counts."""

import unittest

from pairwebs.counts import by_ties, row_of, whole_many, with_tie, worth
from pairwebs.errors import NoNumber, NoPlace, NoTie
from pairwebs.greatest import most
from pairwebs.kinds import beside, full, ring, row, sides_web, star
from things import FLOWER, MIXED, NOTHINGS, TWO_STARS, WEBS, Asking, all_webs, plain_pairings

SMALL = [web for many in range(1, 5) for web in all_webs(many)] + all_webs(5)[::5]
NUMBERS = [0, 1, -1, 2, -2, 3, -3, 7, -10, 12345678901, 10 ** 29 + 7, -(10 ** 29) - 1, 10 ** 30 - 1, 1 - 10 ** 30]
NO_NUMBERS = [
    True, False, None, "", "0", "1", "-1", " ", "x", (), (1,), (0, 1), ((),), [], [0], [1], {}, {0: 1}, {1: 0},
    (1, ()), (None,), [None],
]


def left_out(web, places):
    """The web without some places, or None where none is left, by new numbers in the old order."""
    left = [place for place in range(web[0]) if place not in places]
    ties = [(left.index(low), left.index(high)) for low, high in web[1] if low in left and high in left]
    return (len(left), tuple(ties)) if left else None


def plain_worth(web, x):
    """What the pairings come to one by one: each stands for its loose places and its sign."""
    return sum((-1) ** len(pairing) * x ** (web[0] - 2 * len(pairing)) for pairing in plain_pairings(web))


class ByTies(Asking):
    def test_written_out(self):
        self.told([1], by_ties, (1, ()))
        self.told([1], by_ties, (8, ()))
        self.told([1, 1], by_ties, row(2))
        self.told([1, 2], by_ties, row(3))
        self.told([1, 3, 1], by_ties, row(4))
        self.told([1, 7, 15, 10, 1], by_ties, row(8))
        self.told([1, 3], by_ties, ring(3))
        self.told([1, 4, 2], by_ties, ring(4))
        self.told([1, 8, 20, 16, 2], by_ties, ring(8))
        self.told([1, 7], by_ties, star(8))
        self.told([1, 6, 3], by_ties, full(4))
        self.told([1, 21, 105, 105], by_ties, full(7))
        self.told([1, 28, 210, 420, 105], by_ties, full(8))
        self.told([1, 9, 18, 6], by_ties, sides_web(3, 3))
        self.told([1, 16, 72, 96, 24], by_ties, sides_web(4, 4))
        self.told([1, 5, 5, 1], by_ties, MIXED)
        self.told([1, 7, 9], by_ties, TWO_STARS)

    def test_against_all_pairings(self):
        for web in WEBS + SMALL:
            sizes = [len(pairing) for pairing in plain_pairings(web)]
            self.told([sizes.count(size) for size in range(max(sizes) + 1)], by_ties, web)
            self.assertEqual(len(by_ties(web)), most(web) + 1, web)
            self.assertGreater(by_ties(web)[-1], 0, web)
            self.assertEqual(sum(by_ties(web)), len(sizes), web)

    def test_refusals_and_own_lists(self):
        self.no_web(by_ties, ())
        for web in [(1, ()), row(4), full(8), MIXED]:
            self.own(by_ties, web)


class WholeMany(Asking):
    def test_written_out(self):
        self.told(0, whole_many, (1, ()))
        self.told(0, whole_many, (2, ()))
        self.told(1, whole_many, row(2))
        self.told(2, whole_many, ring(4))
        self.told(2, whole_many, ring(8))
        self.told(0, whole_many, star(4))
        self.told(0, whole_many, MIXED)
        self.told(0, whole_many, TWO_STARS)
        for many, wholes in enumerate([0, 1, 0, 3, 0, 15, 0, 105], start=1):
            self.told(wholes, whole_many, full(many))
            self.told(int(many in (2, 4, 6, 8)), whole_many, row(many))
        for many, wholes in enumerate([1, 2, 6, 24], start=1):
            self.told(wholes, whole_many, sides_web(many, many))

    def test_against_all_pairings(self):
        for web in WEBS + SMALL:
            wholes = [pairing for pairing in plain_pairings(web) if len(pairing) * 2 == web[0]]
            self.told(len(wholes), whole_many, web)

    def test_refusals(self):
        self.no_web(whole_many, ())


class WithTie(Asking):
    def test_written_out(self):
        self.told(1, with_tie, row(2), 0, 1)
        self.told(1, with_tie, row(2), 1, 0)
        self.told(2, with_tie, row(4), 0, 1)
        self.told(1, with_tie, row(4), 1, 2)
        self.told(1, with_tie, row(4), 2, 1)
        self.told(2, with_tie, row(4), 3, 2)
        self.told(76, with_tie, full(8), 7, 0)
        self.told(76, with_tie, full(8), 3, 4)
        self.told(1, with_tie, star(8), 5, 0)
        self.told(6, with_tie, MIXED, 4, 1)
        self.told(2, with_tie, MIXED, 0, 5)
        self.told(4, with_tie, MIXED, 3, 5)

    def test_each_two_places_in_either_order(self):
        for web in WEBS + SMALL:
            pairings = plain_pairings(web)
            for one in range(web[0]):
                for other in range(web[0]):
                    tie = (min(one, other), max(one, other))
                    if tie in web[1]:
                        many = sum(tie in pairing for pairing in pairings)
                        self.assertEqual(with_tie(web, one, other), many, (web, one, other))
                    else:
                        self.assertRaises(NoTie, with_tie, web, one, other)

    def test_two_that_have_none_and_one_place_twice(self):
        for one, other in [(0, 2), (3, 0), (1, 3)]:
            self.refused(NoTie, with_tie, row(4), one, other)
            self.refused(NoTie, with_tie, row(4), other, one)
        for web in [(1, ()), row(2), full(8), star(5), MIXED]:
            for place in range(web[0]):
                self.refused(NoTie, with_tie, web, place, place)

    def test_refusals_in_their_order(self):
        self.no_web(with_tie, (0, 1), (None, None), (0, 9), (9, 0), (0, 0))
        for thing in NOTHINGS + [(), (0,), (0, 1), 7]:
            for fine in [0, 1, 6]:
                self.refused(NoPlace, with_tie, MIXED, thing, fine)
                self.refused(NoPlace, with_tie, MIXED, fine, thing)
            self.refused(NoPlace, with_tie, MIXED, thing, thing)
            self.refused(NoPlace, with_tie, MIXED, thing, None)
        for many in range(1, 9):
            for thing in [many, -1, -many, True, False, None]:
                self.refused(NoPlace, with_tie, full(many), thing, 0)
                self.refused(NoPlace, with_tie, full(many), 0, thing)


class RowOf(Asking):
    def test_written_out(self):
        self.told([0, 1], row_of, (1, ()))
        self.told([0, 0, 1], row_of, (2, ()))
        self.told([-1, 0, 1], row_of, row(2))
        self.told([0, -2, 0, 1], row_of, row(3))
        self.told([1, 0, -3, 0, 1], row_of, row(4))
        self.told([0, 0, -3, 0, 1], row_of, star(4))
        self.told([0, 0, 0, 0, 0, 0, -7, 0, 1], row_of, star(8))
        self.told([-15, 0, 45, 0, -15, 0, 1], row_of, full(6))
        self.told([105, 0, -420, 0, 210, 0, -28, 0, 1], row_of, full(8))
        self.told([0, -1, 0, 5, 0, -5, 0, 1], row_of, MIXED)
        self.told([0, 0, 0, 0, 0, 0, 0, 0, 1], row_of, (8, ()))

    def test_against_all_pairings(self):
        for web in WEBS + SMALL:
            numbers = [0 for place in range(web[0] + 1)]
            for pairing in plain_pairings(web):
                numbers[web[0] - 2 * len(pairing)] += (-1) ** len(pairing)
            self.told(numbers, row_of, web)

    def test_refusals_and_own_lists(self):
        self.no_web(row_of, ())
        for web in [(1, ()), row(4), full(8), MIXED]:
            self.own(row_of, web)


class Worth(Asking):
    def test_written_out(self):
        self.told(5, worth, (1, ()), 5)
        self.told(0, worth, (1, ()), 0)
        self.told(-5, worth, (1, ()), -5)
        self.told(24, worth, row(2), 5)
        self.told(24, worth, row(2), -5)
        self.told(-1, worth, row(2), 0)
        self.told(55, worth, row(4), 3)
        self.told(-1, worth, row(4), 1)
        self.told(-1, worth, row(4), -1)
        self.told(1, worth, row(4), 0)
        self.told(105, worth, full(8), 0)
        self.told(105 - 420 + 210 - 28 + 1, worth, full(8), 1)
        self.told(2 ** 8 - 28 * 2 ** 6 + 210 * 2 ** 4 - 420 * 2 ** 2 + 105, worth, full(8), -2)
        self.told(10 ** 240, worth, (8, ()), -(10 ** 30))
        self.told(10 ** 60 - 1, worth, row(2), 10 ** 30)
        self.told(-(10 ** 90) + 2 * 10 ** 30, worth, row(3), -(10 ** 30))

    def test_nought_leaves_the_number_at_the_rows_place_nought(self):
        for web in WEBS + SMALL:
            self.told(row_of(web)[0], worth, web, 0)

    def test_against_all_pairings(self):
        for web in WEBS + SMALL[::4]:
            for x in NUMBERS:
                self.assertEqual(worth(web, x), plain_worth(web, x), (web, x))

    def test_webs_beside_one_another_come_to_the_product(self):
        for web in [(1, ()), row(3), ring(4), full(4), star(4)]:
            for other in [(2, ()), row(4), ring(3), star(3), sides_web(2, 2)]:
                for x in NUMBERS:
                    self.assertEqual(worth(beside(web, other), x), worth(web, x) * worth(other, x))

    def test_without_a_tie_less_without_both_its_places(self):
        for web in SMALL[::3] + [MIXED, FLOWER, TWO_STARS, full(8), row(2), ring(7)]:
            for tie in web[1]:
                cut = (web[0], tuple(other for other in web[1] if other != tie))
                less = left_out(web, tie)
                for x in NUMBERS:
                    without = 1 if less is None else worth(less, x)
                    self.assertEqual(worth(web, x), worth(cut, x) - without, (web, tie, x))

    def test_refusals_in_their_order(self):
        self.no_web(worth, (0,), (None,), (True,), ("",))
        for thing in NO_NUMBERS:
            for web in [(1, ()), MIXED, full(8)]:
                self.refused(NoNumber, worth, web, thing)


if __name__ == "__main__":
    unittest.main()
