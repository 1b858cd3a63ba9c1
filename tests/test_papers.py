"""Tests of 5.1 to 5.4, and of 0.2 to 0.5 where they speak of papers."""

import unittest

from pairwebs.errors import NoPlaces
from pairwebs.greatest import greatest, has_whole, most
from pairwebs.kinds import beside, full, ring, row, sides_web, star
from pairwebs.papers import all_papers, bar, bound, is_paper, odd_left, paper_for
from things import FLOWER, MIXED, NO_PLACES, TWO_STARS, WEBS, Asking, all_some, all_webs, joined, plain_pairings

SMALL = [web for many in range(1, 5) for web in all_webs(many)] + all_webs(5)[::5]


def plainly_odd(web, some):
    """The odd pieces of what is left without some, by joining what ties join."""
    left = [place for place in range(web[0]) if place not in some]
    return [piece for piece in joined(web, left) if len(piece) % 2 == 1]


class Bounds(Asking):
    def test_no_places(self):
        self.told([(0,)], odd_left, (1, ()), ())
        self.told([], odd_left, row(4), ())
        self.told([(0, 1, 2, 3, 4)], odd_left, row(5), ())
        self.told([(6,)], odd_left, MIXED, ())
        self.told(0, bound, (1, ()), ())
        self.told(2, bound, row(4), ())
        self.told(2, bound, row(5), ())
        self.told(3, bound, MIXED, ())
        self.told(0, bound, (8, ()), ())
        self.told(4, bound, full(8), ())

    def test_one_place(self):
        self.told([(1,), (2,), (3,)], odd_left, star(4), (0,))
        self.told([(0, 1, 2)], odd_left, row(4), (3,))
        self.told([], odd_left, row(5), (2,))
        self.told([(1,), (6,)], odd_left, MIXED, (4,))
        self.told(1, bound, star(4), (0,))
        self.told(1, bound, star(8), (0,))
        self.told(2, bound, star(4), (1,))
        self.told(2, bound, row(4), (3,))
        self.told(3, bound, row(5), (2,))

    def test_several_and_all(self):
        self.told([(0,), (2,), (4,)], odd_left, row(5), (1, 3))
        self.told([(2,), (3,), (4,), (5,), (6,), (7,)], odd_left, TWO_STARS, (0, 1))
        self.told(2, bound, row(5), (1, 3))
        self.told(2, bound, TWO_STARS, (0, 1))
        self.told([(2,), (3,), (6,)], odd_left, MIXED, (0, 1, 4, 5))
        self.told(4, bound, MIXED, (0, 1, 4, 5))
        for many in range(1, 9):
            self.told([], odd_left, full(many), tuple(range(many)))
            self.told(many, bound, full(many), tuple(range(many)))

    def test_every_some_of_many_webs(self):
        for web in WEBS:
            many = most(web)
            for some in all_some(web[0]):
                odd = plainly_odd(web, some)
                self.assertEqual(odd_left(web, some), odd, (web, some))
                twice = web[0] + len(some) - len(odd)
                self.assertEqual(2 * bound(web, some), twice, (web, some))
                self.assertGreaterEqual(bound(web, some), many, (web, some))

    def test_refusals_and_own_lists(self):
        for ask in (odd_left, bound):
            self.no_web(ask, ((),), ((0,),), (None,), ((9,),))
            self.no_places(ask, NO_PLACES)
            for many in range(1, 9):
                for some in [(many,), (-1,), (0, 0), [], [0], True, (True,), (False,), None, "", {}]:
                    self.refused(NoPlaces, ask, full(many), some)
        self.own(odd_left, row(5), (1, 3))
        self.own(odd_left, row(4), ())


class IsPaper(Asking):
    def test_written_out(self):
        self.told(True, is_paper, star(4), ((0, 1),), (0,))
        self.told(False, is_paper, star(4), ((0, 1),), ())
        self.told(False, is_paper, star(4), (), (0,))
        self.told(True, is_paper, row(5), ((0, 1), (2, 3)), (1, 3))
        self.told(True, is_paper, row(5), ((0, 1), (3, 4)), ())
        self.told(False, is_paper, row(5), ((1, 2),), (1, 3))
        self.told(False, is_paper, row(5), ((0, 1), (2, 3)), (2,))
        self.told(True, is_paper, (3, ()), (), ())
        self.told(False, is_paper, (3, ()), (), (0,))
        self.told(True, is_paper, MIXED, ((0, 2), (1, 4), (3, 5)), (5,))

    def test_every_some_of_each_pairing_of_some_webs(self):
        for web in [MIXED, FLOWER, row(5), ring(5), star(5), full(4), sides_web(2, 3), beside(ring(3), row(2))]:
            for pairing in plain_pairings(web):
                for some in all_some(web[0]):
                    paper = web[0] + len(some) - len(plainly_odd(web, some)) == 2 * len(pairing)
                    self.assertIs(is_paper(web, pairing, some), paper, (web, pairing, some))

    def test_what_has_a_paper_is_greatest(self):
        for web in SMALL:
            for pairing in plain_pairings(web):
                shown = any(is_paper(web, pairing, some) for some in all_some(web[0]))
                self.assertIs(shown, pairing in greatest(web), (web, pairing))

    def test_things_of_every_kind(self):
        for thing in NO_PLACES:
            self.told(False, is_paper, MIXED, ((0, 2), (1, 4), (3, 5)), thing)
        for thing in [[0], (False,), (0, 0), "0", {0: 0}, ((0,),), ([0],), 0, None, False, (0, None), [], "", {}]:
            self.told(False, is_paper, star(4), ((0, 1),), thing)
        for thing in [[], "", {}, None, False, 0, ((),), [()]]:
            self.told(False, is_paper, row(4), ((0, 1), (2, 3)), thing)
        for thing in [(True,), [1], (1, 1)]:
            self.told(False, is_paper, row(3), ((0, 1),), thing)

    def test_refusals(self):
        self.no_web(is_paper, ((), ()), (None, None), ((), None), (None, ()))
        self.no_pairing(is_paper, ((),), (None,), ((0,),), ([],))


class Papers(Asking):
    def test_written_out(self):
        self.told([()], all_papers, (1, ()))
        self.told([(), (0,), (1,)], all_papers, row(2))
        self.told([(), (1,)], all_papers, row(3))
        self.told([(), (0,), (0, 2), (1,), (1, 2), (1, 3), (2,), (3,)], all_papers, row(4))
        self.told([(0,)], all_papers, star(4))
        self.told([()], all_papers, ring(5))
        self.told([()], all_papers, full(7))
        self.told([(), (0,), (1,), (2,), (3,)], all_papers, full(4))
        self.told([(0, 1)], all_papers, TWO_STARS)
        self.told([()], all_papers, (8, ()))
        self.told([(0, 1)], all_papers, sides_web(2, 4))

    def test_paper_for_written_out(self):
        self.told((), paper_for, (1, ()))
        self.told((), paper_for, row(8))
        self.told((0,), paper_for, star(4))
        self.told((0,), paper_for, star(8))
        self.told((), paper_for, star(3))
        self.told((0, 1), paper_for, TWO_STARS)
        self.told((3,), paper_for, (4, ((0, 3), (1, 3), (2, 3))))
        self.told((), paper_for, full(8))

    def test_there_always_is_one_and_they_are_as_listed(self):
        for web in WEBS + SMALL:
            twice = 2 * most(web)
            papers = sorted(
                some for some in all_some(web[0]) if web[0] + len(some) - len(plainly_odd(web, some)) == twice
            )
            self.assertNotEqual(papers, [], web)
            self.assertEqual(all_papers(web), papers, web)
            self.assertEqual(paper_for(web), papers[0], web)

    def test_they_are_papers_for_each_greatest_pairing(self):
        for web in SMALL[::3] + [MIXED, FLOWER, TWO_STARS]:
            for some in all_papers(web):
                for pairing in greatest(web):
                    self.assertIs(is_paper(web, pairing, some), True, (web, pairing, some))

    def test_refusals_and_own_lists(self):
        for ask in (all_papers, paper_for):
            self.no_web(ask, ())
        for web in [(1, ()), row(4), full(8), TWO_STARS]:
            self.own(all_papers, web)


class Bar(Asking):
    def test_written_out(self):
        self.told((), bar, (1, ()))
        self.told((), bar, (8, ()))
        self.told((), bar, row(3))
        self.told((), bar, ring(7))
        self.told((), bar, beside(ring(3), ring(5)))
        self.told((0,), bar, star(4))
        self.told((3,), bar, (4, ((0, 3), (1, 3), (2, 3))))
        self.told((0,), bar, TWO_STARS)
        self.told((0, 1), bar, sides_web(2, 4))
        self.told((4, 5), bar, sides_web(4, 2))

    def test_none_where_the_web_has_a_whole_pairing(self):
        for web in [row(2), row(8), ring(4), ring(8), full(4), full(8), sides_web(4, 4), beside(row(2), ring(6))]:
            self.told(None, bar, web)

    def test_against_every_some(self):
        for web in WEBS + SMALL:
            bars = sorted(some for some in all_some(web[0]) if len(plainly_odd(web, some)) > len(some))
            self.assertEqual(bar(web), bars[0] if bars else None, web)
            self.assertIs(bar(web) is None, has_whole(web), web)

    def test_refusals(self):
        self.no_web(bar, ())


if __name__ == "__main__":
    unittest.main()
