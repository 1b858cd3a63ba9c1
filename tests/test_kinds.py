"""Tests of 1.3 and 1.4, and of 0.2 to 0.5 where they speak of kinds of webs."""

import itertools
import unittest

from pairwebs.errors import NoNumber, NoWeb, TooGreat
from pairwebs.kinds import beside, full, ring, row, sides_web, star
from pairwebs.webs import is_web
from things import NO_WEBS, Asking, all_webs

NO_COUNTS = [
    0, -1, -8, 9, 10, 10 ** 30, -(10 ** 30), True, False, None, "", "3", "row", (), (3,), [], [3], {}, {3: 3},
    (3, ()), ((3,),),
]


def web_where(many, tied):
    """The web of those pairs of places of which it is so."""
    return (many, tuple(pair for pair in itertools.combinations(range(many), 2) if tied(*pair)))


class PlainKinds(Asking):
    def test_rows(self):
        self.told((1, ()), row, 1)
        self.told((2, ((0, 1),)), row, 2)
        self.told((4, ((0, 1), (1, 2), (2, 3))), row, 4)
        for n in range(1, 9):
            self.told(web_where(n, lambda low, high: high == low + 1), row, n)

    def test_rings(self):
        self.told((3, ((0, 1), (0, 2), (1, 2))), ring, 3)
        self.told((5, ((0, 1), (0, 4), (1, 2), (2, 3), (3, 4))), ring, 5)
        for n in range(3, 9):
            self.told(web_where(n, lambda low, high: high - low in (1, n - 1)), ring, n)

    def test_full_webs(self):
        self.told((1, ()), full, 1)
        self.told((3, ((0, 1), (0, 2), (1, 2))), full, 3)
        for n in range(1, 9):
            self.told(web_where(n, lambda low, high: True), full, n)
        self.assertEqual(len(full(8)[1]), 28)

    def test_stars(self):
        self.told((1, ()), star, 1)
        self.told((4, ((0, 1), (0, 2), (0, 3))), star, 4)
        for n in range(1, 9):
            self.told(web_where(n, lambda low, high: low == 0), star, n)

    def test_all_are_webs(self):
        for n in range(1, 9):
            for kind in (row, full, star) + ((ring,) if n > 2 else ()):
                self.told(True, is_web, kind(n))

    def test_no_number(self):
        for kind in (row, ring, full, star):
            for thing in NO_COUNTS:
                self.refused(NoNumber, kind, thing)

    def test_no_ring_below_three(self):
        for n in (1, 2):
            self.refused(NoNumber, ring, n)


class SidesWebs(Asking):
    def test_sides_written_out(self):
        self.told((2, ((0, 1),)), sides_web, 1, 1)
        self.told((4, ((0, 1), (0, 2), (0, 3))), sides_web, 1, 3)
        self.told((4, ((0, 3), (1, 3), (2, 3))), sides_web, 3, 1)
        self.told((5, ((0, 2), (0, 3), (0, 4), (1, 2), (1, 3), (1, 4))), sides_web, 2, 3)

    def test_each_two_numbers(self):
        for a, b in itertools.product(range(1, 9), repeat=2):
            if a + b <= 8:
                self.told(web_where(a + b, lambda low, high: low < a <= high), sides_web, a, b)
                self.told(True, is_web, sides_web(a, b))
            else:
                self.refused(NoNumber, sides_web, a, b)

    def test_no_number_in_the_first_and_in_the_second_place(self):
        for thing in NO_COUNTS:
            for other in (1, 4, 7):
                self.refused(NoNumber, sides_web, thing, other)
                self.refused(NoNumber, sides_web, other, thing)
            self.refused(NoNumber, sides_web, thing, thing)

    def test_no_number_where_only_the_sum_is_in_bounds(self):
        for a, b in [(-1, 4), (4, -1), (0, 4), (4, 0), (0, 8), (8, 0), (9, -1), (-1, 9)]:
            self.refused(NoNumber, sides_web, a, b)


class Beside(Asking):
    def test_webs_written_out(self):
        self.told((2, ()), beside, (1, ()), (1, ()))
        self.told((5, ((0, 1), (0, 2), (1, 2), (3, 4))), beside, ring(3), row(2))
        self.told((5, ((0, 1), (2, 3), (2, 4), (3, 4))), beside, row(2), ring(3))
        self.told((4, ((1, 2), (1, 3))), beside, (1, ()), star(3))

    def test_each_two_numbers_of_places(self):
        for one, other in itertools.product(range(1, 9), repeat=2):
            many = one + other
            if many <= 8:
                apart = web_where(many, lambda low, high: high < one or low >= one)
                self.told(apart, beside, full(one), full(other))
                self.told((many, ()), beside, (one, ()), (other, ()))
            else:
                self.too_great(many, full(one), full(other))
                self.too_great(many, (one, ()), (other, ()))

    def test_small_webs(self):
        webs = all_webs(1) + all_webs(2) + all_webs(3)
        for one, other in itertools.product(webs, repeat=2):
            def tied(low, high):
                return (low, high) in one[1] or (low - one[0], high - one[0]) in other[1]
            self.told(web_where(one[0] + other[0], tied), beside, one, other)
            self.told(True, is_web, beside(one, other))

    def too_great(self, many, one, other):
        error = self.refused(TooGreat, beside, one, other)
        self.assertEqual((error.many, error.most), (many, 8))

    def test_no_web_of_the_first_and_of_the_second(self):
        for thing in NO_WEBS:
            self.refused(NoWeb, beside, thing, row(2))
            self.refused(NoWeb, beside, row(2), thing)
            self.refused(NoWeb, beside, thing, thing)

    def test_no_web_is_ahead_of_too_great(self):
        for thing in [(9, ()), (8, ((0, 8),)), (8, []), [8, ()], (8, ((1, 0),)), (10 ** 30, ())]:
            self.refused(NoWeb, beside, thing, full(8))
            self.refused(NoWeb, beside, full(8), thing)

    def test_what_was_told_may_be_handed_in_again(self):
        pair = beside(row(2), row(2))
        self.told((8, ((0, 1), (2, 3), (4, 5), (6, 7))), beside, pair, pair)
        self.too_great(10, beside(pair, pair), row(2))


if __name__ == "__main__":
    unittest.main()
