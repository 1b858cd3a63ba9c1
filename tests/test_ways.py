"""Tests of 3.1 and 3.2, and of 0.2 to 0.5 where they speak of ways."""

import itertools
import unittest

from pairwebs.errors import NoWay
from pairwebs.greatest import most
from pairwebs.kinds import full, ring, row, star
from pairwebs.pairings import is_pairing
from pairwebs.ways import all_ways, first_way, greater, is_way
from things import MIXED, NOTHINGS, WEBS, Asking, all_webs, plain_pairings

# One way of the row of eight that has all its places.
LONG = ((1, 2), (3, 4), (5, 6))


def plainly_way(web, pairing, places):
    """The words of 3.1, one by one, of a tuple of places."""
    steps = [tuple(sorted(step)) for step in zip(places, places[1:])]
    paired = {place for tie in pairing for place in tie}
    return (
        len(places) in (2, 4, 6, 8) and len(set(places)) == len(places) and places[0] < places[-1]
        and places[0] not in paired and places[-1] not in paired and set(steps) <= set(web[1])
        and not set(steps[::2]) & set(pairing) and set(steps[1::2]) <= set(pairing)
    )


def plain_ways(web, pairing):
    """All ways for a pairing, out of all rows of unlike places."""
    places = range(web[0])
    rows = [found for size in range(2, web[0] + 1, 2) for found in itertools.permutations(places, size)]
    return sorted(found for found in rows if plainly_way(web, pairing, found))


class IsWay(Asking):
    def test_ways_of_two_four_six_and_eight_places(self):
        self.told(True, is_way, row(2), (), (0, 1))
        self.told(True, is_way, row(4), ((1, 2),), (0, 1, 2, 3))
        self.told(True, is_way, row(6), ((1, 2), (3, 4)), (0, 1, 2, 3, 4, 5))
        self.told(True, is_way, row(8), LONG, (0, 1, 2, 3, 4, 5, 6, 7))
        self.told(True, is_way, full(8), LONG, (0, 7))
        self.told(True, is_way, full(8), LONG, (0, 4, 3, 7))
        self.told(True, is_way, full(8), LONG, (0, 6, 5, 1, 2, 7))
        self.told(True, is_way, full(8), LONG, (0, 6, 5, 1, 2, 4, 3, 7))
        self.told(True, is_way, MIXED, ((0, 5), (1, 4)), (2, 0, 5, 3))

    def test_turned_about(self):
        self.told(False, is_way, row(2), (), (1, 0))
        self.told(False, is_way, row(4), ((1, 2),), (3, 2, 1, 0))
        self.told(False, is_way, row(8), LONG, (7, 6, 5, 4, 3, 2, 1, 0))
        self.told(False, is_way, MIXED, ((0, 5), (1, 4)), (3, 5, 0, 2))

    def test_an_odd_number_of_places_or_none(self):
        for places in [(), (0,), (3,), (0, 1, 2), (0, 1, 3), (0, 2, 3)]:
            self.told(False, is_way, full(4), ((1, 2),), places)
        self.told(False, is_way, row(5), ((1, 2), (3, 4)), (0, 1, 2, 3, 4))
        self.told(False, is_way, row(7), LONG, (0, 1, 2, 3, 4, 5, 6))

    def test_a_place_twice(self):
        for places in [(0, 0), (0, 1, 2, 0), (0, 1, 2, 1, 2, 3), (0, 1, 2, 0, 1, 3), (0, 1, 2, 3, 0, 3), (0, 1, 1, 3)]:
            self.told(False, is_way, full(4), ((1, 2),), places)

    def test_an_end_that_is_not_loose(self):
        for places in [(1, 2), (0, 1), (0, 2), (1, 3), (2, 3)]:
            self.told(False, is_way, full(4), ((1, 2),), places)
        self.told(False, is_way, row(6), ((1, 2), (3, 4)), (0, 1, 2, 3))
        self.told(False, is_way, row(6), ((1, 2), (3, 4)), (2, 3, 4, 5))

    def test_ties_that_are_none_of_the_web(self):
        self.told(False, is_way, row(4), (), (0, 2))
        self.told(False, is_way, row(4), ((1, 2),), (0, 3))
        self.told(False, is_way, row(4), ((1, 2),), (0, 2, 1, 3))
        self.told(False, is_way, (4, ((0, 1), (1, 2))), ((1, 2),), (0, 1, 2, 3))
        self.told(False, is_way, (4, ((1, 2), (2, 3))), ((1, 2),), (0, 1, 2, 3))

    def test_ties_not_by_turns(self):
        self.told(False, is_way, row(4), (), (0, 1, 2, 3))
        self.told(False, is_way, row(6), ((1, 2),), (0, 1, 2, 3, 4, 5))
        self.told(False, is_way, full(6), ((1, 2), (3, 4)), (0, 1, 3, 5))
        self.told(False, is_way, full(6), ((1, 2), (3, 4)), (0, 1, 3, 4, 2, 5))
        self.told(False, is_way, full(6), ((0, 1), (2, 3)), (0, 1, 2, 3, 4, 5))

    def test_what_is_no_place(self):
        for places in [(0, 4), (-1, 0), (-4, 1), (0, 8), (0, 10 ** 30), (0, 1, 2, 4), (-1, 1, 2, 3)]:
            self.told(False, is_way, full(4), ((1, 2),), places)

    def test_truths_lists_and_other_kinds(self):
        for thing in [[0, 3], [0, 1, 2, 3], (0, True), (False, 3), (0, True, 2, 3), (False, 1, 2, 3), ((0, 3),),
                      ([0], [3]), (0, 3, None), (0, None), (0, "3"), "03", {0: 3}, ((0, 1), (2, 3)), (0, [1], 2, 3)]:
            self.told(False, is_way, full(4), ((1, 2),), thing)
        for thing in [(False, True), (0, True), (False, 1), (0, 1, ()), [0, 1], "01", {0: 0, 1: 1}]:
            self.told(False, is_way, row(2), (), thing)

    def test_things_of_every_kind(self):
        for thing in NOTHINGS + [(), 1, (0,), (0, 1), (0, 1, 2)]:
            self.told(False, is_way, MIXED, ((0, 5), (1, 4)), thing)
            self.told(False, is_way, MIXED, ((0, 5), (1, 4)), (2, thing))
            self.told(False, is_way, MIXED, ((0, 5), (1, 4)), (2, thing, 5, 3))

    def test_all_tuples_of_places_of_small_webs(self):
        tuples = [places for size in range(6) for places in itertools.product(range(4), repeat=size)]
        for web in (row(4), ring(4), star(4), full(4), (4, ((0, 1), (1, 2), (1, 3), (2, 3))), (4, ((0, 3),))):
            for pairing in plain_pairings(web):
                for places in tuples:
                    way = plainly_way(web, pairing, places)
                    self.assertIs(is_way(web, pairing, places), way, (web, pairing, places))

    def test_refusals(self):
        self.no_web(is_way, ((), ()), (None, None), ((), (0, 1)))
        self.no_pairing(is_way, ((0, 2),), (None,), ((),))


class AllWays(Asking):
    def test_written_out(self):
        self.told([], all_ways, (8, ()), ())
        self.told([(0, 1), (1, 2), (2, 3)], all_ways, row(4), ())
        self.told([(0, 1, 2, 3)], all_ways, row(4), ((1, 2),))
        self.told([(2, 3)], all_ways, row(4), ((0, 1),))
        self.told([], all_ways, row(4), ((0, 1), (2, 3)))
        self.told([(0, 1, 2, 3), (0, 2, 1, 3), (0, 3)], all_ways, full(4), ((1, 2),))
        self.told([(2, 0, 5, 3)], all_ways, MIXED, ((0, 5), (1, 4)))
        self.told([(0, 1, 2, 3, 4, 5, 6, 7)], all_ways, row(8), LONG)
        self.told([(0, 1, 2, 3, 4, 5, 6, 7), (0, 7)], all_ways, ring(8), LONG)

    def test_first_way_written_out(self):
        self.told(None, first_way, (8, ()), ())
        self.told((0, 1), first_way, row(4), ())
        self.told((0, 1, 2, 3), first_way, full(4), ((1, 2),))
        self.told((2, 0, 1, 3), first_way, full(4), ((0, 1),))
        self.told(None, first_way, star(5), ((0, 3),))
        self.told(None, first_way, MIXED, ((0, 2), (1, 4), (3, 5)))
        self.told((1, 4), first_way, MIXED, ((0, 2), (3, 5)))

    def test_all_pairings_of_many_webs_against_plain_listing(self):
        for web in WEBS + [web for many in range(1, 5) for web in all_webs(many)]:
            # Rows of eight places are too many to be gone through for every pairing.
            pairings = plain_pairings(web)[::1 if web[0] < 7 else 90]
            for pairing in pairings:
                ways = plain_ways(web, pairing)
                self.assertEqual(all_ways(web, pairing), ways, (web, pairing))
                self.assertEqual(first_way(web, pairing), ways[0] if ways else None, (web, pairing))

    def test_how_many_ways_full_webs_have(self):
        self.assertEqual(len(all_ways(full(8), ())), 28)
        self.assertEqual(len(all_ways(full(8), LONG)), 1 + 6 + 24 + 48)
        self.assertEqual(all_ways(full(8), ((0, 7), (1, 6), (2, 5), (3, 4))), [])

    def test_just_what_is_not_greatest_has_a_way(self):
        for web in WEBS:
            many = most(web)
            for pairing in plain_pairings(web):
                self.assertIs(first_way(web, pairing) is None, len(pairing) == many, (web, pairing))

    def test_what_was_told_may_be_handed_in_again(self):
        for pairing in plain_pairings(full(6)):
            for way in all_ways(full(6), pairing):
                self.assertIs(is_way(full(6), pairing, way), True)

    def test_refusals_and_own_lists(self):
        for ask in (all_ways, first_way):
            self.no_web(ask, ((),), (None,), (((0, 1), (0, 1)),))
            self.no_pairing(ask, ())
        for web, pairing in [((8, ()), ()), (row(4), ()), (full(8), LONG), (MIXED, ((0, 5), (1, 4)))]:
            self.own(all_ways, web, pairing)


class Greater(Asking):
    def test_written_out(self):
        self.told(((0, 1),), greater, row(2), (), (0, 1))
        self.told(((0, 1), (2, 3)), greater, row(4), ((1, 2),), (0, 1, 2, 3))
        self.told(((0, 2), (1, 3)), greater, full(4), ((1, 2),), (0, 2, 1, 3))
        self.told(((0, 3), (1, 2)), greater, full(4), ((1, 2),), (0, 3))
        self.told(((0, 2), (1, 4), (3, 5)), greater, MIXED, ((0, 5), (1, 4)), (2, 0, 5, 3))
        self.told(((0, 1), (2, 3), (4, 5), (6, 7)), greater, row(8), LONG, (0, 1, 2, 3, 4, 5, 6, 7))
        self.told(((0, 6), (1, 5), (2, 7), (3, 4)), greater, full(8), LONG, (0, 6, 5, 1, 2, 7))

    def test_each_way_of_many_pairings(self):
        for web in WEBS:
            for pairing in plain_pairings(web)[::1 if web[0] < 7 else 20]:
                for way in all_ways(web, pairing):
                    steps = {tuple(sorted(step)) for step in zip(way, way[1:])}
                    kept = [tie for tie in pairing if tie not in steps]
                    new = [tie for tie in steps if tie not in pairing]
                    answer = greater(web, pairing, way)
                    self.assertEqual(answer, tuple(sorted(kept + new)), (web, pairing, way))
                    self.assertEqual(len(answer), len(pairing) + 1)
                    self.assertTrue(is_pairing(web, answer))

    def test_no_way(self):
        nones = [(), 0, 1, (0,), (0, 1), (3, 5, 0, 2), [2, 0, 5, 3], (2, 0, 5), (2, 3), (2, 0, True, 3)]
        for thing in NOTHINGS + nones:
            self.refused(NoWay, greater, MIXED, ((0, 5), (1, 4)), thing)
        for thing in [(1, 0), (0, True), (False, 1), [0, 1], (0, 2), (), None]:
            self.refused(NoWay, greater, row(3), (), thing)
        self.refused(NoWay, greater, row(2), ((0, 1),), (0, 1))

    def test_refusals_in_their_order(self):
        self.no_web(greater, ((), ()), (None, None), ((), (0, 1)), (None, (0, 1)))
        self.no_pairing(greater, ((0, 2),), (None,), ((),), ((2, 0, 5, 3),))


if __name__ == "__main__":
    unittest.main()
