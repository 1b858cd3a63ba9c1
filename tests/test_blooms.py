"""Tests of 4.1 and 4.2, and of 0.2 to 0.5 where they speak of odd rings and blooms."""

import itertools
import unittest

from pairwebs.blooms import all_blooms, first_bloom, is_bloom, is_ring
from pairwebs.kinds import full, ring, row, star
from things import ALONG, FLOWER, MIXED, NOTHINGS, WEBS, Asking, all_webs, plain_pairings


def turned(places):
    """A ring begun at each of its places, and turned either way."""
    begun = [places[at:] + places[:at] for at in range(len(places))]
    return begun + [other[::-1] for other in begun]


def steps(places):
    return [tuple(sorted(step)) for step in zip(places, places[1:])]


def plainly_ring(web, places):
    """The words of 4.1, one by one, of a tuple of places."""
    around = steps(places + places[:1])
    return len(places) in (3, 5, 7) and len(set(places)) == len(places) and set(around) <= set(web[1])


def plainly_bloom(web, pairing, stem, round_):
    """The words of 4.2, one by one, of two tuples of places."""
    if len(stem) not in (1, 3, 5, 7) or len(set(stem)) < len(stem) or not plainly_ring(web, round_):
        return False
    if any(stem[0] in tie for tie in pairing) or not set(steps(stem)) <= set(web[1]):
        return False
    if stem[-1] != round_[0] or round_[1] >= round_[-1] or set(stem) & set(round_) != {stem[-1]}:
        return False
    # By turns: the first, third and so on are none of the pairing, the second, fourth and so on are of it.
    both = [steps(stem), steps(round_ + round_[:1])]
    return all((tie in pairing) == (at % 2 == 1) for ties in both for at, tie in enumerate(ties))


def plain_blooms(web, pairing):
    """All blooms for a pairing, out of all rows of unlike places, parted wherever that can be."""
    rows = [found for size in range(3, web[0] + 1, 2) for found in itertools.permutations(range(web[0]), size)]
    halves = [(found[:at + 1], found[at:]) for found in rows for at in range(len(found))]
    return sorted(both for both in halves if plainly_bloom(web, pairing, *both))


class IsRing(Asking):
    def test_odd_rings_begun_at_each_place_and_turned_either_way(self):
        for many in (3, 5, 7):
            for web in (ring(many), full(many), full(8)):
                for places in turned(tuple(range(many))):
                    self.told(True, is_ring, web, places)
        for places in turned((0, 2, 5)):
            self.told(True, is_ring, MIXED, places)
        for places in turned((2, 3, 4, 5, 6)):
            self.told(True, is_ring, FLOWER, places)
        self.told(True, is_ring, full(8), (7, 0, 5, 2, 6))

    def test_an_even_number_of_places(self):
        for many in (2, 4, 6, 8):
            self.told(False, is_ring, full(many), tuple(range(many)))
        for many in (4, 6, 8):
            self.told(False, is_ring, ring(many), tuple(range(many)))

    def test_one_place_or_none(self):
        for web in (full(8), (1, ()), MIXED):
            self.told(False, is_ring, web, ())
            self.told(False, is_ring, web, (0,))

    def test_a_place_twice(self):
        for places in [(0, 0, 0), (0, 1, 0), (0, 1, 1), (0, 1, 2, 0, 3), (0, 1, 2, 3, 0), (0, 1, 2, 1, 3)]:
            self.told(False, is_ring, full(5), places)

    def test_a_tie_that_lacks(self):
        for places in turned((0, 1, 2)):
            self.told(False, is_ring, row(3), places)
        for places in turned((0, 1, 2, 3, 4)):
            self.told(False, is_ring, row(5), places)
            self.told(False, is_ring, (5, ((0, 1), (0, 4), (1, 2), (3, 4))), places)
        for places in [(0, 2, 4, 1, 3), (0, 1, 2), (0, 2, 1, 3, 4)]:
            self.told(False, is_ring, ring(5), places)
        self.told(False, is_ring, star(8), (0, 1, 2))

    def test_the_last_one_and_the_first_one_without_a_tie(self):
        self.told(False, is_ring, row(3), (0, 1, 2))
        self.told(False, is_ring, row(7), (0, 1, 2, 3, 4, 5, 6))
        self.told(False, is_ring, FLOWER, (0, 1, 2))
        self.told(False, is_ring, (4, ((0, 1), (0, 2), (1, 3))), (2, 0, 1))

    def test_what_is_no_place(self):
        for places in [(0, 1, 3), (-1, 0, 1), (0, 1, -1), (0, 1, 8), (0, 1, 10 ** 30)]:
            self.told(False, is_ring, full(3), places)

    def test_things_of_every_kind(self):
        for thing in NOTHINGS:
            self.told(False, is_ring, full(5), thing)
            self.told(False, is_ring, full(5), (0, 1, thing))
            self.told(False, is_ring, full(5), (thing, 1, 2))
        for thing in [[0, 1, 2], (False, 1, 2), (0, True, 2), (True, 2, 3), ((0, 1, 2),), ([0, 1, 2],), (0, 1, [2]),
                      "012", {0: 0, 1: 1, 2: 2}, ((0, 1), (1, 2), (0, 2)), (0, 1, "2"), (0, 1, None), 3, (0, 1, 2, ())]:
            self.told(False, is_ring, full(5), thing)

    def test_all_tuples_of_places_of_small_webs(self):
        tuples = [places for size in range(6) for places in itertools.product(range(5), repeat=size)]
        for web in (ring(5), row(5), full(5), (5, ((0, 1), (0, 2), (1, 2), (2, 3), (2, 4), (3, 4)))):
            for places in tuples:
                self.assertIs(is_ring(web, places), plainly_ring(web, places), (web, places))

    def test_nothing_but_no_web_is_refused(self):
        self.no_web(is_ring, ((),), ((0, 1, 2),), (None,), ([],), (True,))


class IsBloom(Asking):
    def test_stems_of_one_place(self):
        self.told(True, is_bloom, ring(3), ((1, 2),), ((0,), (0, 1, 2)))
        self.told(True, is_bloom, ring(3), ((0, 1),), ((2,), (2, 0, 1)))
        self.told(True, is_bloom, ring(7), ALONG, ((0,), (0, 1, 2, 3, 4, 5, 6)))
        self.told(True, is_bloom, full(7), ALONG, ((0,), (0, 1, 2, 4, 3)))
        self.told(True, is_bloom, MIXED, ((0, 2), (1, 4)), ((5,), (5, 0, 2)))

    def test_stems_of_three_and_more_places(self):
        self.told(True, is_bloom, FLOWER, ALONG, ((0, 1, 2), (2, 3, 4, 5, 6)))
        self.told(True, is_bloom, full(7), ALONG, ((0, 2, 1), (1, 3, 4)))
        self.told(True, is_bloom, full(7), ALONG, ((0, 4, 3), (3, 5, 6)))
        self.told(True, is_bloom, full(7), ALONG, ((0, 1, 2, 3, 4), (4, 5, 6)))
        self.told(True, is_bloom, (7, row(7)[1][:5] + ((4, 6), (5, 6))), ALONG, ((0, 1, 2, 3, 4), (4, 5, 6)))
        self.told(True, is_bloom, MIXED, ((0, 2), (1, 4)), ((5,), (5, 0, 2)))

    def test_stem_and_ring_exchanged(self):
        self.told(False, is_bloom, FLOWER, ALONG, ((2, 3, 4, 5, 6), (0, 1, 2)))
        self.told(False, is_bloom, ring(3), ((1, 2),), ((0, 1, 2), (0,)))
        self.told(False, is_bloom, full(7), ALONG, ((1, 3, 4), (0, 2, 1)))

    def test_the_ring_turned_about_or_begun_elsewhere(self):
        for places in turned((2, 3, 4, 5, 6)):
            self.told(places == (2, 3, 4, 5, 6), is_bloom, FLOWER, ALONG, ((0, 1, 2), places))
        for places in turned((0, 1, 2)):
            self.told(places == (0, 1, 2), is_bloom, ring(3), ((1, 2),), ((0,), places))

    def test_a_stem_whose_first_place_is_not_loose(self):
        self.told(False, is_bloom, FLOWER, ALONG, ((2,), (2, 3, 4, 5, 6)))
        self.told(False, is_bloom, full(7), ((0, 1), (3, 4), (5, 6)), ((0,), (0, 3, 4)))
        self.told(False, is_bloom, full(8), ((0, 7), (1, 2), (3, 4)), ((0, 1, 2), (2, 3, 4)))

    def test_ties_of_the_stem_not_by_turns(self):
        self.told(False, is_bloom, FLOWER, ((3, 4), (5, 6)), ((0, 1, 2), (2, 3, 4, 5, 6)))
        self.told(False, is_bloom, full(7), ALONG, ((0, 1, 3), (3, 5, 6)))
        self.told(False, is_bloom, full(7), ((0, 1), (3, 4)), ((0, 1, 2), (2, 3, 4)))
        self.told(False, is_bloom, full(7), ((1, 2), (3, 4)), ((0, 1, 2, 5, 6), (6, 3, 4)))

    def test_ties_of_the_ring_not_by_turns(self):
        self.told(False, is_bloom, ring(3), (), ((0,), (0, 1, 2)))
        self.told(False, is_bloom, full(7), ALONG, ((0,), (0, 1, 3)))
        self.told(False, is_bloom, full(7), ALONG, ((0,), (0, 1, 3, 4, 2)))
        self.told(False, is_bloom, full(7), ((1, 2),), ((0,), (0, 1, 2, 3, 4)))
        self.told(False, is_bloom, full(7), ((3, 4),), ((0,), (0, 1, 2, 3, 4)))
        self.told(False, is_bloom, full(7), ALONG, ((0, 1, 2), (2, 3, 5)))

    def test_a_place_in_common_too_many_or_none(self):
        self.told(False, is_bloom, full(7), ALONG, ((0, 1, 2, 3, 4), (4, 1, 2)))
        self.told(False, is_bloom, full(7), ALONG, ((0, 1, 2), (2, 3, 4, 0, 1)))
        self.told(False, is_bloom, full(7), ALONG, ((0, 1, 2, 1, 2), (2, 3, 4)))
        self.told(False, is_bloom, full(8), ALONG, ((0,), (7, 1, 2)))
        self.told(False, is_bloom, full(8), ALONG, ((0, 1, 2), (7, 3, 4)))

    def test_stems_of_an_even_number_of_places_or_none(self):
        self.told(False, is_bloom, full(8), ALONG, ((0, 7), (7, 1, 2)))
        self.told(False, is_bloom, full(8), ALONG, ((0, 1), (1, 3, 4)))
        self.told(False, is_bloom, full(8), ALONG, ((), (0, 1, 2)))
        self.told(False, is_bloom, full(8), ALONG, ((), ()))

    def test_ties_that_are_none_of_the_web(self):
        self.told(False, is_bloom, row(3), ((1, 2),), ((0,), (0, 1, 2)))
        self.told(False, is_bloom, (7, FLOWER[1][1:]), ALONG, ((0, 1, 2), (2, 3, 4, 5, 6)))
        self.told(False, is_bloom, FLOWER, ALONG, ((0, 2, 1), (1, 3, 4)))

    def test_things_of_every_kind(self):
        stem, around = (0, 1, 2), (2, 3, 4, 5, 6)
        for thing in NOTHINGS + [(), 0, (0,), (0, 1), (0, 1, 2)]:
            self.told(False, is_bloom, FLOWER, ALONG, thing)
            self.told(False, is_bloom, FLOWER, ALONG, (stem, thing))
            if thing != stem:
                self.told(False, is_bloom, FLOWER, ALONG, (thing, around))
            self.told(False, is_bloom, FLOWER, ALONG, (stem, around, thing))
        for thing in [[stem, around], (list(stem), around), (stem, list(around)), {stem: around}, stem + around,
                      ((stem, around),), ((0, True, 2), around), ((False, 1, 2), around), (stem, around, ())]:
            self.told(False, is_bloom, FLOWER, ALONG, thing)
        self.told(False, is_bloom, ring(3), ((0, 2),), ((True,), (1, 0, 2)))
        self.told(False, is_bloom, ring(3), ((0, 2),), ((1,), (True, 0, 2)))
        self.told(False, is_bloom, ring(3), ((0, 2),), ((1,), (1, False, 2)))

    def test_all_of_small_webs_against_the_words(self):
        some = [places for size in range(5) for places in itertools.product(range(4), repeat=size)]
        for web in (full(4), (4, ((0, 1), (1, 2), (1, 3), (2, 3)))):
            for pairing in plain_pairings(web):
                for stem in some[::3]:
                    for around in some:
                        bloom = plainly_bloom(web, pairing, stem, around)
                        self.assertIs(is_bloom(web, pairing, (stem, around)), bloom, (web, pairing, stem, around))

    def test_refusals(self):
        self.no_web(is_bloom, ((), ()), (None, None), ((), ((0,), (0, 1, 2))))
        self.no_pairing(is_bloom, (((5,), (5, 0, 2)),), (None,), ((),))


class AllBlooms(Asking):
    def test_written_out(self):
        self.told([], all_blooms, (8, ()), ())
        self.told([], all_blooms, ring(3), ())
        self.told([((0,), (0, 1, 2))], all_blooms, ring(3), ((1, 2),))
        self.told([((0, 1, 2), (2, 3, 4, 5, 6))], all_blooms, FLOWER, ALONG)
        self.told([], all_blooms, FLOWER, ((0, 1), (3, 4)))
        self.told([], all_blooms, ring(8), ALONG)
        self.told([((3,), (3, 1, 2))], all_blooms, (4, ((0, 1), (1, 2), (1, 3), (2, 3))), ((1, 2),))
        self.told([((0,), (0, 1, 2)), ((3,), (3, 1, 2))], all_blooms, full(4), ((1, 2),))
        self.told([((0,), (0, 1, 2)), ((0,), (0, 1, 2, 3, 4)), ((0,), (0, 1, 2, 4, 3)), ((0,), (0, 2, 1, 3, 4)),
                   ((0,), (0, 2, 1, 4, 3)), ((0,), (0, 3, 4)), ((0, 1, 2), (2, 3, 4)), ((0, 2, 1), (1, 3, 4)),
                   ((0, 3, 4), (4, 1, 2)), ((0, 4, 3), (3, 1, 2))], all_blooms, full(5), ((1, 2), (3, 4)))

    def test_first_bloom_written_out(self):
        self.told(None, first_bloom, (1, ()), ())
        self.told(None, first_bloom, full(8), ())
        self.told(None, first_bloom, full(8), ((0, 1), (2, 3), (4, 5), (6, 7)))
        self.told(((0, 1, 2), (2, 3, 4, 5, 6)), first_bloom, FLOWER, ALONG)
        self.told(((6,), (6, 0, 1)), first_bloom, full(8), ((0, 1), (2, 3), (4, 5)))
        self.told(((3, 5, 0), (0, 1, 2)), first_bloom, (6, ((0, 1), (0, 2), (0, 5), (1, 2), (3, 5))), ((0, 5), (1, 2)))

    def test_against_plain_listing(self):
        for web in WEBS + [web for many in range(1, 5) for web in all_webs(many)]:
            if web[0] < 7:
                for pairing in plain_pairings(web):
                    blooms = plain_blooms(web, pairing)
                    self.assertEqual(all_blooms(web, pairing), blooms, (web, pairing))
                    self.assertEqual(first_bloom(web, pairing), blooms[0] if blooms else None, (web, pairing))

    def test_great_webs_against_plain_listing(self):
        for web, pairing in [(full(7), ALONG), (FLOWER, ALONG), (full(8), ((0, 7), (1, 6), (2, 5)))]:
            self.assertEqual(all_blooms(web, pairing), plain_blooms(web, pairing), (web, pairing))

    def test_what_was_told_may_be_handed_in_again(self):
        for pairing in plain_pairings(full(6)):
            for bloom in all_blooms(full(6), pairing):
                self.assertIs(is_bloom(full(6), pairing, bloom), True)
                self.assertIs(is_ring(full(6), bloom[1]), True)

    def test_refusals_and_own_lists(self):
        for ask in (all_blooms, first_bloom):
            self.no_web(ask, ((),), (None,), (((0, 1), (0, 1)),))
            self.no_pairing(ask, ())
        for web, pairing in [(ring(3), ()), (full(8), ALONG), (MIXED, ((0, 2),))]:
            self.own(all_blooms, web, pairing)


if __name__ == "__main__":
    unittest.main()
