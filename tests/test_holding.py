"""Tests of 8.2, and of 0.2 to 0.5 where they speak of holding."""

import unittest

from pairwebs.errors import NoPlaces
from pairwebs.greatest import greatest, most
from pairwebs.holding import fewest_holding, first_holding, holds_ties, ties_paper
from pairwebs.kinds import beside, full, ring, row, sides_web, star
from pairwebs.sides import sides
from things import FLOWER, MIXED, NO_PLACES, NOTHINGS, TWO_STARS, WEBS, Asking, all_some, all_webs, plain_pairings

SMALL = [web for many in range(1, 5) for web in all_webs(many)] + all_webs(5)[::5]


def plainly_holds(web, some):
    """Whether no tie is left when some are left out."""
    return not [tie for tie in web[1] if not set(tie) & set(some)]


class HoldsTies(Asking):
    def test_no_places(self):
        for web in WEBS:
            self.told(web[1] == (), holds_ties, web, ())

    def test_all_places(self):
        for web in WEBS:
            self.told(True, holds_ties, web, tuple(range(web[0])))

    def test_some_places(self):
        self.told(True, holds_ties, star(8), (0,))
        self.told(False, holds_ties, star(8), (1, 2, 3, 4, 5, 6))
        self.told(True, holds_ties, star(8), (1, 2, 3, 4, 5, 6, 7))
        self.told(True, holds_ties, row(5), (1, 3))
        self.told(False, holds_ties, row(5), (1, 4))
        self.told(True, holds_ties, MIXED, (0, 1, 5))
        self.told(True, holds_ties, MIXED, (2, 4, 5))
        self.told(False, holds_ties, MIXED, (0, 5, 6))
        self.told(False, holds_ties, full(8), (0, 1, 2, 3, 4, 5))
        self.told(True, holds_ties, full(8), (0, 1, 2, 4, 5, 6, 7))

    def test_every_some_of_many_webs(self):
        for web in WEBS:
            for some in all_some(web[0]):
                self.assertIs(holds_ties(web, some), plainly_holds(web, some), (web, some))

    def test_refusals(self):
        self.no_web(holds_ties, ((),), ((0,),), (None,), ((9,),))
        self.no_places(holds_ties, NO_PLACES)
        for many in range(1, 9):
            for some in [(many,), (-1,), (0, 0), (0, many), [], [0], True, (True,), (False,), None, "", {}]:
                self.refused(NoPlaces, holds_ties, full(many), some)


class Fewest(Asking):
    def test_a_web_without_ties(self):
        for many in range(1, 9):
            self.told((), first_holding, (many, ()))
            self.told(0, fewest_holding, (many, ()))

    def test_written_out(self):
        for web, some in [
            (row(2), (0,)), (row(3), (1,)), (row(4), (0, 2)), (row(5), (1, 3)), (ring(3), (0, 1)), (ring(5), (0, 1, 3)),
            (star(8), (0,)), (full(8), (0, 1, 2, 3, 4, 5, 6)), (sides_web(3, 5), (0, 1, 2)),
            (sides_web(5, 3), (5, 6, 7)), (sides_web(4, 4), (0, 1, 2, 3)), (MIXED, (0, 1, 5)), (TWO_STARS, (0, 1)),
            (beside(star(3), star(4)), (0, 3)), ((4, ((0, 3), (1, 3), (2, 3))), (3,)),
        ]:
            self.told(some, first_holding, web)
            self.told(len(some), fewest_holding, web)

    def test_against_all_some(self):
        for web in WEBS + SMALL:
            holding = [some for some in all_some(web[0]) if plainly_holds(web, some)]
            fewest = min(len(some) for some in holding)
            self.told(min(some for some in holding if len(some) == fewest), first_holding, web)
            self.told(fewest, fewest_holding, web)

    def test_no_pairing_has_more_ties_and_with_two_sides_just_as_many(self):
        for web in WEBS + SMALL:
            self.assertLessEqual(most(web), fewest_holding(web), web)
            if sides(web) is not None:
                self.assertEqual(most(web), fewest_holding(web), web)

    def test_refusals(self):
        self.no_web(first_holding, ())
        self.no_web(fewest_holding, ())


class TiesPaper(Asking):
    def test_written_out(self):
        self.told(True, ties_paper, (1, ()), (), ())
        self.told(True, ties_paper, (8, ()), (), ())
        self.told(False, ties_paper, (8, ()), (), (0,))
        self.told(True, ties_paper, star(4), ((0, 2),), (0,))
        self.told(False, ties_paper, star(4), ((0, 2),), (2,))
        self.told(True, ties_paper, row(4), ((0, 1), (2, 3)), (0, 2))
        self.told(True, ties_paper, row(4), ((0, 1), (2, 3)), (1, 3))
        self.told(False, ties_paper, row(4), ((0, 1), (2, 3)), (0, 3))
        self.told(False, ties_paper, ring(3), ((0, 1),), (0, 1))
        self.told(True, ties_paper, MIXED, ((0, 2), (1, 4), (3, 5)), (0, 1, 5))
        self.told(True, ties_paper, MIXED, ((0, 2), (1, 4), (3, 5)), (2, 4, 5))

    def test_one_place_more_or_fewer_and_turned_about(self):
        pairing = ((0, 2), (1, 4), (3, 5))
        for thing in [(0, 5), (1, 5), (0, 1), (0, 1, 5, 6), (0, 1, 2, 5), (5, 1, 0), (1, 0, 5), (0, 1, 1), (0, 5, 5),
                      (0, 1, 5, 5), (0, 1, 7), (0, 1, -2), ((0, 1, 5),), (0, (1, 5)), (0, 1, 4), (0, 2, 5)]:
            self.told(False, ties_paper, MIXED, pairing, thing)
        for smaller in [(), ((0, 2),), ((0, 2), (1, 4))]:
            self.told(False, ties_paper, MIXED, smaller, (0, 1, 5))

    def test_things_of_every_kind(self):
        pairing = ((0, 2), (1, 4), (3, 5))
        for thing in NO_PLACES:
            self.told(False, ties_paper, MIXED, pairing, thing)
        for odd in NOTHINGS + [(), (0,)]:
            for thing in [(odd, 1, 5), (0, odd, 5), (0, 1, odd)]:
                self.told(False, ties_paper, MIXED, pairing, thing)
        for thing in [[0, 1, 5], (False, 1, 5), (0, True, 5), {0: 0, 1: 1, 5: 5}, "015", ["0", "1", "5"]]:
            self.told(False, ties_paper, MIXED, pairing, thing)
        for thing in [[], "", {}, None, False, 0, ((),), [()]]:
            self.told(False, ties_paper, (8, ()), (), thing)
        for thing in [[0], (False,), 0, False, "0", {0: 0}]:
            self.told(False, ties_paper, star(4), ((0, 1),), thing)

    def test_every_some_of_each_pairing_of_some_webs(self):
        for web in [MIXED, FLOWER, row(5), ring(5), star(5), full(4), sides_web(2, 3), beside(ring(3), row(2))]:
            for pairing in plain_pairings(web):
                for some in all_some(web[0]):
                    paper = len(some) == len(pairing) and plainly_holds(web, some)
                    self.assertIs(ties_paper(web, pairing, some), paper, (web, pairing, some))

    def test_what_has_one_is_greatest_and_with_two_sides_each_greatest_one_has(self):
        for web in SMALL:
            for pairing in plain_pairings(web):
                shown = any(ties_paper(web, pairing, some) for some in all_some(web[0]))
                self.assertLessEqual(shown, pairing in greatest(web), (web, pairing))
                if sides(web) is not None:
                    self.assertIs(shown, pairing in greatest(web), (web, pairing))

    def test_refusals(self):
        self.no_web(ties_paper, ((), ()), (None, None), ((), None), (None, ()))
        self.no_pairing(ties_paper, ((),), (None,), ((0,),), ([],))


if __name__ == "__main__":
    unittest.main()
