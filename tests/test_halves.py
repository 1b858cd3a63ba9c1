"""Tests of 9.2 to 9.4, and of 0.2 to 0.5 where they speak of halves."""

import itertools
import unittest

from pairwebs.errors import NoWeb, TooGreat
from pairwebs.greatest import most
from pairwebs.halves import are_halves, double, first_halves, half_bound, half_paper, most_halves
from pairwebs.kinds import beside, full, ring, row, sides_web, star
from pairwebs.sides import sides
from pairwebs.webs import is_web
from things import MIXED, NOTHINGS, WEBS, Asking, all_webs, spoiled

TINY = [web for many in range(1, 5) for web in all_webs(many)]
SIX = [web for web in WEBS if web[0] <= 6]
SMALL = TINY + all_webs(5)[::6] + all_webs(6)[::900] + SIX
GREAT = [row(7), (7, ()), MIXED, full(7), row(8), (8, ()), full(8), star(8), sides_web(4, 4)]
# The ring of three with a tail.
TAILED = (4, ((0, 1), (0, 2), (1, 2), (2, 3)))


def sums_at(web, numbers):
    return [sum(number for tie, number in zip(web[1], numbers) if place in tie) for place in range(web[0])]


def plain_halves(web, ahead=()):
    """All halves as tuples rise; what comes to more than 2 at a place is not gone on with."""
    if max(sums_at(web, ahead)) <= 2:
        if len(ahead) == len(web[1]):
            yield ahead
        else:
            for number in range(3):
                yield from plain_halves(web, ahead + (number,))


def plainly_first(web):
    """The greatest sum of halves, and the first halves of this sum."""
    best = (0, (0,) * len(web[1]))
    for halves in plain_halves(web):
        if sum(halves) > best[0]:
            best = (sum(halves), halves)
    return best


def plain_papers(web):
    """All half papers as tuples rise."""
    return [
        paper for paper in itertools.product(range(3), repeat=web[0])
        if all(paper[low] + paper[high] >= 2 for low, high in web[1])
    ]


class AreHalves(Asking):
    def test_written_out(self):
        self.told(True, are_halves, (1, ()), ())
        self.told(True, are_halves, (6, ()), ())
        for number in range(3):
            self.told(True, are_halves, row(2), (number,))
        self.told(True, are_halves, row(3), (1, 1))
        self.told(True, are_halves, row(3), (2, 0))
        self.told(False, are_halves, row(3), (2, 1))
        self.told(False, are_halves, row(3), (1, 2))
        self.told(True, are_halves, ring(3), (1, 1, 1))
        self.told(False, are_halves, ring(3), (1, 2, 0))
        self.told(True, are_halves, star(6), (0, 1, 0, 0, 1))
        self.told(False, are_halves, star(6), (0, 1, 1, 0, 1))
        self.told(True, are_halves, full(6), (2, 0, 0, 0, 0, 0, 0, 0, 0, 2, 0, 0, 0, 0, 2))
        self.told(True, are_halves, full(6), (0,) * 15)
        self.told(False, are_halves, full(6), (1,) * 15)

    def test_all_tuples_of_small_numbers(self):
        for web in [row(2), row(3), ring(3), star(4), TAILED, (4, ((0, 3), (1, 2)))]:
            for thing in itertools.product((-1, 0, 1, 2, 3), repeat=len(web[1])):
                fine = set(thing) <= {0, 1, 2} and max(sums_at(web, thing)) <= 2
                self.assertIs(are_halves(web, thing), fine, (web, thing))

    def test_one_too_many_and_one_too_few(self):
        for web in SIX:
            noughts = (0,) * len(web[1])
            self.told(True, are_halves, web, noughts)
            self.told(False, are_halves, web, noughts + (0,))
            if noughts:
                self.told(False, are_halves, web, noughts[1:])

    def test_things_of_every_kind(self):
        for thing in NOTHINGS + spoiled((1, 1, 0, 0)) + [
            0, 1, 2, (), (1,), (1, 1, 0), (1, 1, 0, 1, 0), "1101", [1, 1, 0, 1], ((1, 1, 0, 1),), (1, 1, 0, True),
            (1, 1, False, 0), (0, 0, 0, 3), (0, 0, 0, -1), (10 ** 30, 0, 0, 0), ((0, 1),) * 4,
        ]:
            self.told(False, are_halves, TAILED, thing)
        for thing in [[], "", {}, None, False, 0, ((),), (0,)]:
            self.told(False, are_halves, (3, ()), thing)

    def test_refusals(self):
        self.no_web(are_halves, ((),), ((1,),), (None,), ([],))


class MostHalves(Asking):
    def test_written_out(self):
        for web, halves in [
            ((1, ()), ()), ((6, ()), ()), (row(2), (2,)), (row(3), (0, 2)), (row(4), (2, 0, 2)), (ring(3), (1, 1, 1)),
            (ring(4), (0, 2, 2, 0)), (ring(5), (1, 1, 1, 1, 1)), (star(4), (0, 0, 2)), (TAILED, (2, 0, 0, 2)),
            (full(4), (0, 0, 2, 2, 0, 0)), (full(6), (0, 0, 0, 0, 2, 0, 0, 2, 0, 2, 0, 0, 0, 0, 0)),
            (sides_web(2, 4), (0, 0, 0, 2, 0, 0, 2, 0)), (beside(ring(3), ring(3)), (1, 1, 1, 1, 1, 1)),
        ]:
            self.told(halves, first_halves, web)
            self.told(sum(halves), most_halves, web)

    def test_against_all_halves(self):
        for web in SMALL:
            best, halves = plainly_first(web)
            self.told(best, most_halves, web)
            self.told(halves, first_halves, web)
            self.told(True, are_halves, web, halves)

    def test_never_less_than_twice_most_and_with_two_sides_just_that(self):
        for web in SMALL:
            self.assertGreaterEqual(most_halves(web), 2 * most(web), web)
            if sides(web) is not None:
                self.assertEqual(most_halves(web), 2 * most(web), web)


class HalfPapers(Asking):
    def test_bound_written_out(self):
        self.told(0, half_bound, (1, ()), (0,))
        self.told(2, half_bound, (1, ()), (2,))
        self.told(2, half_bound, row(2), (1, 1))
        self.told(2, half_bound, row(2), (0, 2))
        self.told(3, half_bound, row(2), (1, 2))
        self.told(None, half_bound, row(2), (0, 1))
        self.told(None, half_bound, row(2), (0, 0))
        self.told(2, half_bound, star(6), (2, 0, 0, 0, 0, 0))
        self.told(None, half_bound, star(6), (1, 1, 1, 1, 1, 0))
        self.told(6, half_bound, full(6), (1, 1, 1, 1, 1, 1))
        self.told(12, half_bound, full(6), (2, 2, 2, 2, 2, 2))

    def test_bound_of_all_tuples_of_small_numbers(self):
        for web in [(1, ()), (3, ()), row(2), row(4), ring(3), ring(5), star(4), TAILED, full(4)]:
            papers = plain_papers(web)
            for thing in itertools.product((-1, 0, 1, 2, 3), repeat=web[0]):
                self.assertEqual(half_bound(web, thing), sum(thing) if thing in papers else None, (web, thing))

    def test_bound_of_things_of_every_kind(self):
        for thing in NOTHINGS + spoiled((1, 1, 2, 0)) + [
            0, 1, 2, (), (1,), (1, 1, 1), (1, 1, 1, 1, 1), "1111", [1, 1, 1, 1], (1, 1, 1, True), (True,) * 4,
            (2, 2, 2, False), (2, 2, 2, 3), (10 ** 30, 2, 2, 2), ((1,),) * 4,
        ]:
            self.told(None, half_bound, TAILED, thing)
        for thing in [True, False, (True,), (False,), [0], [], None, 0, 1, "0", {}, (), (0, 0), (3,), (-1,)]:
            self.told(None, half_bound, (1, ()), thing)

    def test_paper_written_out(self):
        for web, paper in [
            ((1, ()), (0,)), ((6, ()), (0,) * 6), (row(2), (0, 2)), (row(3), (0, 2, 0)), (row(4), (0, 2, 0, 2)),
            (ring(3), (1, 1, 1)), (ring(4), (0, 2, 0, 2)), (star(6), (2, 0, 0, 0, 0, 0)), (full(4), (1, 1, 1, 1)),
            (full(6), (1, 1, 1, 1, 1, 1)), (sides_web(2, 4), (2, 2, 0, 0, 0, 0)), (sides_web(3, 3), (0, 0, 0, 2, 2, 2)),
            (beside(row(2), ring(3)), (0, 2, 1, 1, 1)), (TAILED, (0, 2, 2, 0)),
        ]:
            self.told(paper, half_paper, web)
            self.told(sum(paper), half_bound, web, paper)

    def test_paper_is_the_first_of_the_least_sum_and_that_is_most_halves(self):
        for web in SMALL:
            papers = plain_papers(web)
            least = min(sum(paper) for paper in papers)
            self.told([paper for paper in papers if sum(paper) == least][0], half_paper, web)
            self.told(least, most_halves, web)

    def test_no_halves_have_a_greater_sum_than_a_paper(self):
        for web in TINY[::3]:
            best = max(sum(halves) for halves in plain_halves(web))
            for paper in plain_papers(web):
                self.assertGreaterEqual(half_bound(web, paper), best, (web, paper))


class Double(Asking):
    def test_written_out(self):
        self.told((2, ()), double, (1, ()))
        self.told((8, ()), double, (4, ()))
        self.told((4, ((0, 3), (1, 2))), double, row(2))
        self.told((6, ((0, 4), (1, 3), (1, 5), (2, 4))), double, row(3))
        self.told((6, ((0, 4), (0, 5), (1, 3), (1, 5), (2, 3), (2, 4))), double, ring(3))
        self.told((8, ((0, 5), (0, 6), (0, 7), (1, 4), (2, 4), (3, 4))), double, star(4))

    def test_all_webs_of_at_most_four_places(self):
        for web in TINY:
            many = web[0]
            ties = sorted(
                (one, many + other) for one in range(many) for other in range(many)
                if (one, other) in web[1] or (other, one) in web[1]
            )
            self.told((2 * many, tuple(ties)), double, web)
            self.told(True, is_web, double(web))

    def test_its_greatest_pairings_tell_most_halves_and_it_has_two_sides(self):
        for web in TINY:
            self.assertEqual(most(double(web)), most_halves(web), web)
            self.assertIsNotNone(sides(double(web)), web)

    def test_more_than_four_places_are_refused(self):
        for web in [row(5), (5, ()), full(5), ring(6), (6, ()), full(6)] + GREAT:
            refusal = self.refused(TooGreat, double, web)
            self.assertEqual((refusal.many, refusal.most), (web[0], 4))


class TooManyPlaces(Asking):
    def test_more_than_six_places_are_refused_whatever_else_is_handed_in(self):
        for web in GREAT:
            for ask in (most_halves, first_halves, half_paper):
                refusal = self.refused(TooGreat, ask, web)
                self.assertEqual((refusal.many, refusal.most), (web[0], 6))
            for ask in (are_halves, half_bound):
                for thing in NOTHINGS[:20] + [(0,) * len(web[1]), (1,) * web[0], (2,) * web[0], ()]:
                    refusal = self.refused(TooGreat, ask, web, thing)
                    self.assertEqual((refusal.many, refusal.most), (web[0], 6))
                    self.assertEqual((refusal.many.__class__, refusal.most.__class__), (int, int))

    def test_no_web_is_refused_ahead_of_that(self):
        for ask in (most_halves, first_halves, half_paper, double):
            self.no_web(ask, ())
        for ask in (are_halves, half_bound):
            self.no_web(ask, ((),), ((1,),), (None,))
        for thing in [(7, ((0, 7),)), (8, ((1, 0),)), (7, []), [8, ()], (9, ()), (8, ((0, 1), (0, 1)))]:
            for ask in (most_halves, first_halves, half_paper, double):
                self.refused(NoWeb, ask, thing)
            for ask in (are_halves, half_bound):
                self.refused(NoWeb, ask, thing, ())


if __name__ == "__main__":
    unittest.main()
