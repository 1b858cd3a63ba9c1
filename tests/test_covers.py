"""Tests of 9.1, and of 0.2 to 0.5 where they speak of covers."""

import itertools
import math
import unittest
from unittest import mock

from pairwebs import covers
from pairwebs.covers import fewest_cover, first_cover, is_cover
from pairwebs.greatest import most
from pairwebs.kinds import beside, full, ring, row, sides_web, star
from pairwebs.pairings import loose_of
from things import FLOWER, MIXED, NOTHINGS, TWO_STARS, WEBS, Asking, all_webs, spoiled

SMALL = [web for many in range(1, 6) for web in all_webs(many)]
# The mixed web without its place by itself, and the cover of it that most tests spoil.
TIED = (6, MIXED[1])
COVER = ((0, 2), (1, 4), (3, 5))


def plainly_covers(web, ties):
    return {place for tie in ties for place in tie} == set(range(web[0]))


def plain_cover(web):
    """The first cover of the fewest ties, by all sets of so many ties, as tuples rise."""
    for size in range(len(web[1]) + 1):
        for ties in itertools.combinations(web[1], size):
            if plainly_covers(web, ties):
                return ties
    return None


class IsCover(Asking):
    def test_written_out(self):
        self.told(True, is_cover, row(2), ((0, 1),))
        self.told(True, is_cover, row(3), ((0, 1), (1, 2)))
        self.told(True, is_cover, row(4), ((0, 1), (2, 3)))
        self.told(True, is_cover, row(4), ((0, 1), (1, 2), (2, 3)))
        self.told(True, is_cover, star(8), star(8)[1])
        self.told(True, is_cover, TIED, COVER)
        self.told(True, is_cover, TIED, TIED[1])
        self.told(True, is_cover, full(8), full(8)[1])
        self.told(True, is_cover, full(8), ((0, 7), (1, 6), (2, 5), (3, 4)))

    def test_a_place_left_out(self):
        self.told(False, is_cover, row(2), ())
        self.told(False, is_cover, row(3), ((0, 1),))
        self.told(False, is_cover, row(4), ((0, 1), (1, 2)))
        self.told(False, is_cover, star(8), star(8)[1][1:])
        self.told(False, is_cover, star(8), star(8)[1][:-1])
        self.told(False, is_cover, MIXED, COVER)
        self.told(False, is_cover, MIXED, MIXED[1])
        for at in range(len(COVER)):
            self.told(False, is_cover, TIED, COVER[:at] + COVER[at + 1:])

    def test_the_web_of_one_place_and_webs_without_ties_have_none(self):
        for many in range(1, 9):
            for thing in [(), ((0, 1),), ((0, 0),), [], None, (0,), ((),)]:
                self.told(False, is_cover, (many, ()), thing)

    def test_ties_told_twice_turned_about_falling_or_none_of_the_web(self):
        for thing in [
            ((0, 2), (0, 2), (1, 4), (3, 5)), ((0, 2), (1, 4), (3, 5), (3, 5)), ((2, 0), (1, 4), (3, 5)),
            ((0, 2), (4, 1), (3, 5)), ((0, 2), (1, 4), (5, 3)), ((1, 4), (0, 2), (3, 5)), ((3, 5), (1, 4), (0, 2)),
            ((0, 2), (3, 5), (1, 4)), ((0, 2), (1, 4), (3, 4), (3, 5)), ((0, 1), (0, 2), (1, 4), (3, 5)),
            ((0, 2), (1, 4), (3, 5), (3, 6)), ((0, 2), (1, 3), (4, 5)), ((-1, 0), (0, 2), (1, 4), (3, 5)),
            ((0, 2), (1, 4), (2, 2), (3, 5)), ((0, 2), (1, 4), (3, 5), (5, 5)),
        ]:
            self.told(False, is_cover, TIED, thing)

    def test_lists_truths_and_other_kinds(self):
        for thing in NOTHINGS + spoiled(COVER) + [0, 1, (), (0,), (0, 2), "0-2,1-4,3-5", list(COVER), [list(COVER)],
                                                  (0, 2, 1, 4, 3, 5), (COVER,), ((0, 2, 5), (1, 4), (3, 5)),
                                                  ((0, 2), (True, 4), (3, 5)), ((False, 2), (1, 4), (3, 5))]:
            self.told(False, is_cover, TIED, thing)
        self.told(False, is_cover, row(2), ((False, True),))
        self.told(False, is_cover, row(2), ((0, True),))
        self.told(False, is_cover, row(2), {(0, 1): (0, 1)})
        self.told(False, is_cover, row(2), [(0, 1)])

    def test_all_rising_tuples_of_ties(self):
        for web in SMALL[::7] + [TIED, ring(6), sides_web(2, 4), beside(row(2), star(3))]:
            for size in range(len(web[1]) + 1):
                for ties in itertools.combinations(web[1], size):
                    self.assertIs(is_cover(web, ties), plainly_covers(web, ties), (web, ties))

    def test_nothing_but_no_web_is_refused(self):
        self.no_web(is_cover, ((),), (((0, 1),),), (None,), ([],), (True,))


class FirstCover(Asking):
    def test_written_out(self):
        for web, cover in [
            (row(2), ((0, 1),)), (row(3), ((0, 1), (1, 2))), (row(4), ((0, 1), (2, 3))),
            (row(5), ((0, 1), (1, 2), (3, 4))), (ring(3), ((0, 1), (0, 2))), (ring(4), ((0, 1), (2, 3))),
            (ring(5), ((0, 1), (0, 4), (2, 3))), (star(8), star(8)[1]), (full(4), ((0, 1), (2, 3))),
            (full(7), ((0, 1), (0, 2), (3, 4), (5, 6))), (full(8), ((0, 1), (2, 3), (4, 5), (6, 7))), (TIED, COVER),
            (TWO_STARS, TWO_STARS[1][1:]), (FLOWER, ((0, 1), (1, 2), (3, 4), (5, 6))),
            (sides_web(2, 6), ((0, 2), (0, 3), (0, 4), (0, 5), (0, 6), (1, 7))),
            ((8, ((0, 7), (1, 6), (2, 5), (3, 4))), ((0, 7), (1, 6), (2, 5), (3, 4))),
        ]:
            self.told(cover, first_cover, web)
            self.told(len(cover), fewest_cover, web)

    def test_none_where_a_place_has_no_tie(self):
        for web in [(many, ()) for many in range(1, 9)] + [MIXED, beside((1, ()), full(7)), beside(full(7), (1, ()))]:
            self.told(None, first_cover, web)
            self.told(None, fewest_cover, web)

    def test_against_all_sets_of_ties(self):
        for web in WEBS + SMALL:
            cover = plain_cover(web)
            self.told(cover, first_cover, web)
            self.told(None if cover is None else len(cover), fewest_cover, web)
            if cover is not None:
                self.told(True, is_cover, web, cover)

    def test_place_by_place_and_not_over_all_sets_of_ties(self):
        for web in [full(7), full(8), sides_web(4, 4)]:
            looked_at = set()

            def looking(web, ties):
                looked_at.add(ties)
                return loose_of(web, ties)

            with mock.patch.object(covers, "loose_of", looking):
                many = fewest_cover(web)
            self.assertIn(first_cover(web), looked_at)
            self.assertLess(len(looked_at) * 5, sum(math.comb(len(web[1]), size) for size in range(many + 1)), web)

    def test_as_many_ties_as_places_less_most(self):
        for web in WEBS + SMALL + all_webs(6)[::40]:
            if plainly_covers(web, web[1]):
                self.told(web[0] - most(web), fewest_cover, web)

    def test_refusals(self):
        self.no_web(first_cover, ())
        self.no_web(fewest_cover, ())


if __name__ == "__main__":
    unittest.main()
