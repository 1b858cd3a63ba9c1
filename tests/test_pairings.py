"""Tests of 2.1 and of all_pairings (2.2), and of 0.2 to 0.5 where they speak of pairings."""

import itertools
import unittest

from pairwebs.errors import NoPairing, NoPlace
from pairwebs.kinds import full, ring, row, star
from pairwebs.pairings import all_pairings, is_pairing, loose, mate
from things import MIXED, NO_PAIRINGS, NOTHINGS, WEBS, Asking, all_webs, plain_pairings


class IsPairing(Asking):
    def test_none_and_each_tie_by_itself(self):
        for web in WEBS:
            self.told(True, is_pairing, web, ())
            for tie in web[1]:
                self.told(True, is_pairing, web, (tie,))

    def test_pairings_of_several_ties(self):
        for pairing in [((0, 2), (1, 4)), ((0, 2), (3, 5)), ((0, 2), (1, 4), (3, 5)), ((1, 4), (2, 5))]:
            self.told(True, is_pairing, MIXED, pairing)
        self.told(True, is_pairing, row(8), ((0, 1), (2, 3), (4, 5), (6, 7)))
        self.told(True, is_pairing, ring(8), ((0, 7), (1, 2), (3, 4), (5, 6)))
        self.told(True, is_pairing, full(8), ((0, 7), (1, 6), (2, 5), (3, 4)))

    def test_each_pairing_by_plain_listing(self):
        for web in WEBS:
            for pairing in plain_pairings(web):
                self.assertIs(is_pairing(web, pairing), True, (web, pairing))

    def test_what_is_none(self):
        for thing in NO_PAIRINGS:
            self.told(False, is_pairing, MIXED, thing)

    def test_ties_that_do_not_rise_stand_twice_or_have_a_place_in_common(self):
        for thing in [((2, 3), (0, 1)), ((0, 1), (4, 5), (2, 3)), ((0, 1), (0, 1)), ((0, 1), (2, 3), (2, 3)),
                      ((0, 1), (0, 2)), ((0, 1), (1, 2)), ((0, 2), (1, 2)), ((0, 5), (1, 3), (4, 5))]:
            self.told(False, is_pairing, full(6), thing)

    def test_ties_turned_about_or_of_one_place_twice(self):
        for thing in [((1, 0),), ((3, 2),), ((0, 1), (3, 2)), ((1, 0), (2, 3)), ((0, 0),), ((0, 1), (2, 2))]:
            self.told(False, is_pairing, full(4), thing)

    def test_what_are_no_ties_of_the_web(self):
        for thing in [((0, 2),), ((0, 3),), ((0, 1), (2, 4)), ((0, 4),), ((3, 4),), ((0, 8),), ((-1, 0),)]:
            self.told(False, is_pairing, row(4), thing)
        self.told(False, is_pairing, (8, ()), ((0, 1),))
        self.told(False, is_pairing, (1, ()), ((0, 1),))

    def test_lists_in_the_place_of_tuples(self):
        for thing in [[], [(0, 1)], ([0, 1],), [[0, 1]], ((0, 1), [2, 3]), ([0, 1], (2, 3)), [(0, 1), (2, 3)]]:
            self.told(False, is_pairing, full(4), thing)

    def test_truths_in_the_place_of_numbers(self):
        for thing in [((False, 1),), ((0, True),), ((False, True),), ((True, 2),), ((0, 2), (True, 3)), (True,),
                      ((False, 3), (1, 2)), True, False]:
            self.told(False, is_pairing, full(4), thing)

    def test_things_of_every_kind_within_tuples(self):
        for odd in NOTHINGS:
            if odd != ((0, 1),):
                for thing in [(odd,), ((odd,),), ((0, odd),), ((odd, 1),), ((0, 1), odd), (odd, (2, 3)),
                              ((0, 1), (2, odd)), ((0, 1), (odd, 3))]:
                    self.told(False, is_pairing, full(4), thing)

    def test_all_of_few_ties_against_a_listing(self):
        pairs = list(itertools.product([0, 1, 2, 3, True], repeat=2))
        for web in (row(4), full(4), star(4), ring(4), (4, ((0, 3), (1, 2)))):
            pairings = {repr(pairing) for pairing in plain_pairings(web)}
            for size in range(3):
                for thing in itertools.product(pairs, repeat=size):
                    self.assertIs(is_pairing(web, thing), repr(thing) in pairings, (web, thing))

    def test_nothing_but_no_web_is_refused(self):
        self.no_web(is_pairing, ((),), (((0, 1),),), (None,), ([],), ("",), (True,))


class Loose(Asking):
    def test_written_out(self):
        self.told((0, 1, 2, 3, 4, 5, 6), loose, MIXED, ())
        self.told((1, 3, 4, 5, 6), loose, MIXED, ((0, 2),))
        self.told((6,), loose, MIXED, ((0, 2), (1, 4), (3, 5)))
        self.told((0, 3), loose, row(4), ((1, 2),))
        self.told((), loose, row(4), ((0, 1), (2, 3)))

    def test_all_pairings_of_many_webs(self):
        for web in WEBS:
            for pairing in plain_pairings(web):
                taken = {place for tie in pairing for place in tie}
                left = tuple(place for place in range(web[0]) if place not in taken)
                self.assertEqual(loose(web, pairing), left, (web, pairing))

    def test_refusals(self):
        self.no_web(loose, ((),), (None,), (((0, 1), (0, 1)),))
        self.no_pairing(loose, ())


class Mate(Asking):
    def test_every_place_written_out(self):
        for place, other in enumerate([2, 4, 0, None, 1, None, None]):
            self.told(other, mate, MIXED, ((0, 2), (1, 4)), place)
        for place, other in enumerate([1, 0, None, None]):
            self.told(other, mate, row(4), ((0, 1),), place)

    def test_all_places_and_pairings_of_many_webs(self):
        for web in WEBS:
            if web[0] < 8:
                for pairing in plain_pairings(web):
                    for place in range(web[0]):
                        mates = [sum(tie) - place for tie in pairing if place in tie] or [None]
                        self.assertEqual(mate(web, pairing, place), mates[0], (web, pairing, place))

    def test_every_place_of_a_whole_pairing_of_eight(self):
        for place in range(8):
            self.told(7 - place, mate, full(8), ((0, 7), (1, 6), (2, 5), (3, 4)), place)
            self.told(None, mate, full(8), (), place)

    def test_refusals_in_their_order(self):
        self.no_web(mate, ((), 0), (None, None), ((), 9), (None, 0))
        self.no_pairing(mate, (0,), (7,), (None,), (True,))
        for thing in NOTHINGS + [(), (0,), 7, 8]:
            self.refused(NoPlace, mate, MIXED, ((0, 2), (1, 4)), thing)
        for many in range(1, 9):
            for thing in [many, -1, -many, True, False, None]:
                self.refused(NoPlace, mate, full(many), (), thing)


class AllPairings(Asking):
    def test_written_out(self):
        self.told([()], all_pairings, (1, ()))
        self.told([(), ((0, 1),)], all_pairings, row(2))
        self.told([(), ((0, 1),), ((0, 2),), ((1, 2),)], all_pairings, ring(3))
        self.told([(), ((0, 1),), ((0, 1), (2, 3)), ((1, 2),), ((2, 3),)], all_pairings, row(4))
        self.told([(), ((0, 2),), ((0, 2), (1, 4)), ((0, 2), (1, 4), (3, 5)), ((0, 2), (3, 5)), ((0, 5),),
                   ((0, 5), (1, 4)), ((1, 4),), ((1, 4), (2, 5)), ((1, 4), (3, 5)), ((2, 5),), ((3, 5),)],
                  all_pairings, MIXED)

    def test_webs_without_ties(self):
        for many in range(1, 9):
            self.told([()], all_pairings, (many, ()))

    def test_many_webs_against_plain_listing(self):
        for web in WEBS:
            self.assertEqual(all_pairings(web), plain_pairings(web), web)

    def test_all_small_webs_against_plain_listing(self):
        for many in range(1, 6):
            for web in all_webs(many):
                self.assertEqual(all_pairings(web), plain_pairings(web), web)

    def test_rising_none_first_and_each_once(self):
        for web in WEBS:
            found = all_pairings(web)
            self.assertIsInstance(found, list)
            self.assertEqual(found[0], ())
            self.assertTrue(all(one < other for one, other in zip(found, found[1:])), web)
            self.assertTrue(all(is_pairing(web, pairing) for pairing in found), web)

    def test_full_webs_have_as_many_as_those_of_fewer_places_come_to(self):
        many = [1] + [len(all_pairings(full(n))) for n in range(1, 9)]
        for n in range(2, 9):
            self.assertEqual(many[n], many[n - 1] + (n - 1) * many[n - 2])
        self.assertEqual(many, [1, 1, 2, 4, 10, 26, 76, 232, 764])

    def test_refusals_and_own_lists(self):
        self.no_web(all_pairings, ())
        for web in [(1, ()), row(4), MIXED, full(8)]:
            self.own(all_pairings, web)

    def test_what_was_told_may_be_handed_in_again(self):
        for pairing in all_pairings(MIXED):
            self.told(True, is_pairing, MIXED, pairing)
            self.refused(NoPairing, loose, MIXED, list(pairing))


if __name__ == "__main__":
    unittest.main()
