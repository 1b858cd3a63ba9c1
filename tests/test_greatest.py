"""Tests of 2.2 to 2.4, and of 0.2 to 0.5 where they speak of greatest, full and whole pairings."""

import unittest

from pairwebs.greatest import (
    fewest_full, filled, first_greatest, greatest, has_whole, is_full, is_whole, most,
)
from pairwebs.kinds import beside, full, ring, row, sides_web, star
from pairwebs.pairings import is_pairing
from things import MIXED, WEBS, Asking, all_webs, plain_pairings

SMALL = [web for many in range(1, 6) for web in all_webs(many)]


def with_tie(pairing, tie):
    return tuple(sorted(pairing + (tie,)))


def plainly_fitting(web, pairing):
    """The ties that can be put to a pairing: what comes of it is a pairing of one tie more."""
    return [tie for tie in web[1] if tie not in pairing and is_pairing(web, with_tie(pairing, tie))]


class Greatest(Asking):
    def test_most_of_plain_kinds(self):
        for n in range(1, 9):
            self.told(n // 2, most, row(n))
            self.told(n // 2, most, full(n))
            self.told(min(n - 1, 1), most, star(n))
            self.told(0, most, (n, ()))
        for n in range(3, 9):
            self.told(n // 2, most, ring(n))
        for a in range(1, 8):
            for b in range(1, 9 - a):
                self.told(min(a, b), most, sides_web(a, b))

    def test_written_out(self):
        self.told([((0, 2), (1, 4), (3, 5))], greatest, MIXED)
        self.told([((0, 1),), ((0, 2),), ((0, 3),)], greatest, star(4))
        self.told([((0, 1), (2, 3))], greatest, row(4))
        self.told([((0, 1), (2, 3)), ((0, 1), (3, 4)), ((1, 2), (3, 4))], greatest, row(5))
        self.told([((0, 1), (2, 3)), ((0, 3), (1, 2))], greatest, ring(4))
        self.told([((0, 1), (2, 3)), ((0, 2), (1, 3)), ((0, 3), (1, 2))], greatest, full(4))
        self.told(((0, 2), (1, 4), (3, 5)), first_greatest, MIXED)
        self.told(((0, 1), (2, 3), (4, 5), (6, 7)), first_greatest, full(8))
        self.told(((1, 2), (3, 4)), first_greatest, (5, ((1, 2), (2, 3), (3, 4))))

    def test_webs_without_ties(self):
        for many in range(1, 9):
            self.told([()], greatest, (many, ()))
            self.told((), first_greatest, (many, ()))

    def test_held_against_plain_listing_and_one_another(self):
        for web in WEBS + SMALL:
            pairings = plain_pairings(web)
            many = max(len(pairing) for pairing in pairings)
            best = [pairing for pairing in pairings if len(pairing) == many]
            self.assertEqual(most(web), many, web)
            self.assertEqual(greatest(web), best, web)
            self.assertEqual(first_greatest(web), best[0], web)

    def test_how_many_greatest_ones_there_are(self):
        self.assertEqual([len(greatest(full(n))) for n in range(1, 9)], [1, 1, 3, 3, 15, 15, 105, 105])
        self.assertEqual([len(greatest(ring(n))) for n in range(3, 9)], [3, 2, 5, 2, 7, 2])
        self.assertEqual([len(greatest(star(n))) for n in range(1, 9)], [1, 1, 2, 3, 4, 5, 6, 7])

    def test_refusals_and_own_lists(self):
        for ask in (most, greatest, first_greatest):
            self.no_web(ask, ())
        for web in [(1, ()), MIXED, star(4), full(8)]:
            self.own(greatest, web)


class Full(Asking):
    def test_is_full_written_out(self):
        self.told(True, is_full, (3, ()), ())
        self.told(False, is_full, row(2), ())
        self.told(True, is_full, row(2), ((0, 1),))
        self.told(True, is_full, row(4), ((1, 2),))
        self.told(False, is_full, row(4), ((0, 1),))
        self.told(True, is_full, row(4), ((0, 1), (2, 3)))
        self.told(True, is_full, star(8), ((0, 5),))
        self.told(True, is_full, MIXED, ((0, 5), (1, 4)))
        self.told(False, is_full, MIXED, ((0, 2), (3, 5)))

    def test_filled_written_out(self):
        self.told((), filled, (8, ()), ())
        self.told(((0, 1), (2, 3)), filled, row(4), ())
        self.told(((1, 2),), filled, row(4), ((1, 2),))
        self.told(((0, 1), (2, 3)), filled, row(4), ((2, 3),))
        self.told(((0, 1), (3, 4), (5, 6)), filled, row(8), ((3, 4),))
        self.told(((0, 2), (1, 4), (3, 5)), filled, MIXED, ())
        self.told(((0, 2), (1, 4), (3, 5)), filled, MIXED, ((3, 5),))
        self.told(((0, 5), (1, 4)), filled, MIXED, ((0, 5),))
        self.told(((0, 3), (1, 2)), filled, full(4), ((1, 2),))
        self.told(((0, 1), (2, 3), (4, 5), (6, 7)), filled, full(8), ())
        self.told(((0, 1), (2, 4), (3, 6), (5, 7)), filled, full(8), ((3, 6),))

    def test_all_pairings_of_many_webs(self):
        for web in WEBS + SMALL[::7]:
            for pairing in plain_pairings(web):
                fit = plainly_fitting(web, pairing)
                self.assertIs(is_full(web, pairing), not fit, (web, pairing))
                # What comes of a pairing comes as well of the one with the first tie put to it.
                after = filled(web, with_tie(pairing, fit[0])) if fit else pairing
                self.assertEqual(filled(web, pairing), after, (web, pairing))

    def test_fewest_full_of_plain_kinds(self):
        self.assertEqual([fewest_full(row(n)) for n in range(1, 9)], [0, 1, 1, 1, 2, 2, 2, 3])
        self.assertEqual([fewest_full(ring(n)) for n in range(3, 9)], [1, 2, 2, 2, 3, 3])
        for n in range(1, 9):
            self.told(n // 2, fewest_full, full(n))
            self.told(min(n - 1, 1), fewest_full, star(n))
            self.told(0, fewest_full, (n, ()))
        self.told(2, fewest_full, MIXED)
        self.told(2, fewest_full, beside(row(4), row(4)))

    def test_fewest_full_against_all_full_pairings(self):
        for web in WEBS + SMALL[::3]:
            fewest = min(len(pairing) for pairing in plain_pairings(web) if not plainly_fitting(web, pairing))
            self.assertEqual(fewest_full(web), fewest, web)
            self.assertGreaterEqual(2 * fewest_full(web), most(web), web)
            self.assertLessEqual(fewest_full(web), len(filled(web, ())), web)

    def test_refusals(self):
        for ask in (is_full, filled):
            self.no_web(ask, ((),), (None,), (((0, 1), (0, 1)),))
            self.no_pairing(ask, ())
        self.no_web(fewest_full, ())


class Whole(Asking):
    def test_is_whole_written_out(self):
        self.told(False, is_whole, (1, ()), ())
        self.told(False, is_whole, (2, ()), ())
        self.told(False, is_whole, row(2), ())
        self.told(True, is_whole, row(2), ((0, 1),))
        self.told(True, is_whole, row(4), ((0, 1), (2, 3)))
        self.told(False, is_whole, row(4), ((1, 2),))
        self.told(False, is_whole, row(5), ((0, 1), (2, 3)))
        self.told(False, is_whole, MIXED, ((0, 2), (1, 4), (3, 5)))
        self.told(True, is_whole, full(8), ((0, 7), (1, 6), (2, 5), (3, 4)))
        self.told(False, is_whole, full(8), ((0, 7), (1, 6), (2, 5)))

    def test_has_whole_of_plain_kinds(self):
        for n in range(1, 9):
            self.told(n in (2, 4, 6, 8), has_whole, row(n))
            self.told(n in (2, 4, 6, 8), has_whole, full(n))
            self.told(n == 2, has_whole, star(n))
            self.told(False, has_whole, (n, ()))
        for n in range(3, 9):
            self.told(n in (4, 6, 8), has_whole, ring(n))
        for a in range(1, 8):
            for b in range(1, 9 - a):
                self.told(a == b, has_whole, sides_web(a, b))
        self.told(False, has_whole, beside(ring(3), ring(5)))
        self.told(True, has_whole, (6, ((0, 1), (0, 2), (1, 2), (2, 3), (3, 4), (3, 5), (4, 5))))

    def test_against_plain_listing(self):
        for web in WEBS + SMALL:
            pairings = plain_pairings(web)
            whole = [pairing for pairing in pairings if 2 * len(pairing) == web[0]]
            self.assertIs(has_whole(web), bool(whole), web)
            for pairing in pairings[::5] + whole:
                self.assertIs(is_whole(web, pairing), pairing in whole, (web, pairing))

    def test_refusals(self):
        self.no_web(is_whole, ((),), (None,), (((0, 1), (0, 1)),))
        self.no_pairing(is_whole, ())
        self.no_web(has_whole, ())


if __name__ == "__main__":
    unittest.main()
