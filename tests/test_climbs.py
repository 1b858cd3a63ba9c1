"""Tests of 3.3 and 3.4, and of 0.2 to 0.5 where they speak of climbs and of two pairings."""

import unittest

from pairwebs.climbs import climb, parted
from pairwebs.errors import NoPairing
from pairwebs.greatest import most
from pairwebs.kinds import full, ring, row, star
from pairwebs.ways import first_way, greater, is_way
from things import MIXED, NO_PAIRINGS, WEBS, Asking, all_webs, plain_pairings


def each_two_pairings():
    """Webs with each two of their pairings, those of the greatest webs by leaps."""
    for web in WEBS + all_webs(4):
        pairings = plain_pairings(web)
        for one in pairings[::1 + len(pairings) // 24]:
            for other in pairings[::1 + len(pairings) // 20]:
                yield web, one, other


def steps_of(kind, places):
    """The ties along a row or round a ring."""
    ends = places[1:] if kind == "row" else places[1:] + places[:1]
    return [tuple(sorted(step)) for step in zip(places, ends)]


class Climb(Asking):
    def test_written_out(self):
        self.told([()], climb, (5, ()), ())
        self.told([(), ((0, 1),)], climb, row(2), ())
        self.told([((0, 1),)], climb, row(2), ((0, 1),))
        self.told([((1, 2),), ((0, 1), (2, 3))], climb, row(4), ((1, 2),))
        self.told([(), ((0, 1),), ((0, 1), (2, 3))], climb, row(4), ())
        self.told([(), ((0, 1),), ((0, 2), (1, 3))], climb, full(4), ())
        self.told([((0, 5),), ((0, 5), (1, 4)), ((0, 2), (1, 4), (3, 5))], climb, MIXED, ((0, 5),))
        self.told([((0, 5),)], climb, star(8), ((0, 5),))

    def test_the_longest_one(self):
        self.told([
            (), ((0, 1),), ((0, 2), (1, 3)), ((0, 4), (1, 2), (3, 5)), ((0, 6), (1, 4), (2, 3), (5, 7)),
        ], climb, full(8), ())

    def test_each_step_is_by_the_first_way(self):
        for web in WEBS:
            for pairing in plain_pairings(web)[::1 if web[0] < 7 else 9]:
                climbed = climb(web, pairing)
                self.assertIsInstance(climbed, list)
                self.assertEqual(climbed[0], pairing)
                for one, other in zip(climbed, climbed[1:]):
                    self.assertEqual(other, greater(web, one, first_way(web, one)), (web, one))
                self.assertIsNone(first_way(web, climbed[-1]))
                self.assertEqual(len(climbed[-1]), most(web), (web, pairing))

    def test_refusals_and_own_lists(self):
        self.no_web(climb, ((),), (None,), (((0, 1), (0, 1)),))
        self.no_pairing(climb, ())
        for web, pairing in [((5, ()), ()), (row(4), ((1, 2),)), (full(8), ())]:
            self.own(climb, web, pairing)


class Parted(Asking):
    def test_rows_written_out(self):
        self.told([("row", (0, 1))], parted, row(2), (), ((0, 1),))
        self.told([("row", (0, 1, 2, 3))], parted, row(4), ((1, 2),), ((0, 1), (2, 3)))
        self.told([("row", (0, 1, 2))], parted, row(3), ((1, 2),), ((0, 1),))
        self.told([("row", (0, 1)), ("row", (2, 3))], parted, row(4), ((0, 1),), ((2, 3),))
        self.told([("row", (0, 1)), ("row", (2, 3))], parted, row(4), (), ((0, 1), (2, 3)))
        self.told([("row", (2, 0, 5, 3))], parted, MIXED, ((0, 5), (1, 4)), ((0, 2), (1, 4), (3, 5)))
        self.told([("row", (1, 4)), ("row", (2, 5, 3))], parted, MIXED, ((1, 4), (2, 5)), ((3, 5),))

    def test_a_row_begins_at_its_lesser_end_though_a_lesser_place_is_within(self):
        self.told([("row", (1, 0, 2))], parted, full(3), ((0, 1),), ((0, 2),))
        self.told([("row", (2, 4, 0, 1, 3))], parted, full(5), ((0, 4), (1, 3)), ((0, 1), (2, 4)))

    def test_rings_written_out(self):
        self.told([("ring", (0, 1, 2, 3))], parted, ring(4), ((0, 1), (2, 3)), ((0, 3), (1, 2)))
        self.told([("ring", (0, 2, 1, 3))], parted, full(4), ((0, 2), (1, 3)), ((0, 3), (1, 2)))
        self.told([("ring", (0, 1, 2, 3, 4, 5, 6, 7))], parted, ring(8),
                  ((0, 7), (1, 2), (3, 4), (5, 6)), ((0, 1), (2, 3), (4, 5), (6, 7)))
        self.told([("ring", (0, 4, 1, 7)), ("ring", (2, 3, 5, 6))], parted, full(8),
                  ((0, 4), (1, 7), (2, 6), (3, 5)), ((0, 7), (1, 4), (2, 3), (5, 6)))

    def test_rings_stand_ahead_of_rows_as_tuples_rise(self):
        self.told([("ring", (4, 5, 6, 7)), ("row", (0, 1)), ("row", (2, 3))], parted, full(8),
                  ((0, 1), (4, 5), (6, 7)), ((2, 3), (4, 7), (5, 6)))
        self.told([("row", (0, 7)), ("row", (1, 2, 3)), ("row", (4, 5, 6))], parted, full(8),
                  ((0, 7), (1, 2), (4, 5)), ((2, 3), (5, 6)))

    def test_ties_in_both_are_in_none(self):
        self.told([("row", (0, 1))], parted, row(4), ((2, 3),), ((0, 1), (2, 3)))
        self.told([("ring", (0, 1, 2, 3))], parted, full(6), ((0, 1), (2, 3), (4, 5)), ((0, 3), (1, 2), (4, 5)))

    def test_a_pairing_and_itself(self):
        for web in WEBS:
            for pairing in plain_pairings(web)[::1 if web[0] < 8 else 11]:
                self.told([], parted, web, pairing, pairing)

    def test_the_same_both_ways_round(self):
        for web, one, other in each_two_pairings():
            self.assertEqual(parted(web, one, other), parted(web, other, one), (web, one, other))

    def test_what_is_told_is_of_its_form_and_has_just_the_ties_in_one_of_both(self):
        for web, one, other in each_two_pairings():
            found = parted(web, one, other)
            self.assertIsInstance(found, list)
            self.assertTrue(all(ahead < behind for ahead, behind in zip(found, found[1:])))
            everywhere = [place for kind, places in found for place in places]
            self.assertEqual(len(everywhere), len(set(everywhere)))
            ties = [step for kind, places in found for step in steps_of(kind, places)]
            self.assertEqual(sorted(ties), sorted(set(one) ^ set(other)), (web, one, other))
            for kind, places in found:
                self.assertIn(kind, ("row", "ring"))
                self.assertIsInstance(places, tuple)
                if kind == "row":
                    self.assertLess(places[0], places[-1])
                else:
                    self.assertEqual(places[0], min(places))
                    self.assertLess(places[1], places[-1])

    def test_rows_that_are_ways_for_the_lesser_pairing(self):
        for web, one, other in each_two_pairings():
            rows = [places for kind, places in parted(web, one, other) if kind == "row"]
            ways = [places for places in rows if is_way(web, one, places)]
            self.assertGreaterEqual(len(ways), len(other) - len(one), (web, one, other))

    def test_refusals_in_their_order(self):
        self.no_web(parted, ((), ()), (None, None), ((), None), (None, ()))
        for thing in NO_PAIRINGS:
            self.refused(NoPairing, parted, MIXED, thing, ())
            self.refused(NoPairing, parted, MIXED, (), thing)
            self.refused(NoPairing, parted, MIXED, thing, thing)
            self.refused(NoPairing, parted, MIXED, ((1, 4), (3, 5)), thing)

    def test_own_lists(self):
        self.own(parted, row(4), ((0, 1),), ((2, 3),))
        self.own(parted, row(4), (), ())


if __name__ == "__main__":
    unittest.main()
