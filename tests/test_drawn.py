"""Tests of 4.3 and 4.4, and of 0.2 to 0.5 where they speak of places drawn together."""

import itertools
import unittest

from pairwebs.blooms import all_blooms, is_ring
from pairwebs.drawn import drawn, drawn_pairing, led_back, new_names
from pairwebs.errors import NoPairing, NoPlaces, NoRing, NoWay
from pairwebs.greatest import most
from pairwebs.kinds import full, ring, row, star
from pairwebs.pairings import is_pairing
from pairwebs.webs import is_web
from things import (
    ALONG, FLOWER, MIXED, NO_PAIRINGS, NO_PLACES, NOTHINGS, OTHERS, WEBS, Asking, all_some, all_webs, plain_pairings,
)

# A ring of three at places that do not stand together, and ties to its later places.
APART = (6, ((0, 5), (1, 3), (1, 5), (2, 3), (2, 5), (3, 5)))


def groups_of(many, some):
    """What each new place was: groups of places, in the order of their least ones."""
    return sorted([some] + [(place,) for place in range(many) if place not in some])


def odd_rings(web):
    """All odd rings, out of all rows of places."""
    rows = [found for size in (3, 5, 7) for found in itertools.permutations(range(web[0]), size)]
    return [found for found in rows if is_ring(web, found)]


class Names(Asking):
    def test_one_place(self):
        for many in (1, 4, 8):
            for place in range(many):
                self.told(tuple(range(many)), new_names, full(many), (place,))

    def test_several(self):
        self.told((0, 0, 1, 2), new_names, row(4), (0, 1))
        self.told((0, 1, 1, 2), new_names, row(4), (1, 2))
        self.told((0, 1, 2, 1, 3), new_names, row(5), (1, 3))
        self.told((0, 1, 2, 0, 3), new_names, row(5), (0, 3))
        self.told((0, 1, 2, 3, 4, 5, 6, 6), new_names, (8, ()), (6, 7))
        self.told((0, 1, 0, 2, 3, 0, 4), new_names, MIXED, (0, 2, 5))
        self.told((0, 1, 2, 1, 3, 1), new_names, APART, (1, 3, 5))

    def test_all(self):
        for many in range(1, 9):
            self.told((0,) * many, new_names, full(many), tuple(range(many)))

    def test_every_some(self):
        for web in OTHERS:
            for some in all_some(web[0])[1:]:
                groups = groups_of(web[0], some)
                names = tuple(at for place in range(web[0]) for at, group in enumerate(groups) if place in group)
                self.assertEqual(new_names(web, some), names, (web, some))


class Drawn(Asking):
    def test_one_place(self):
        for web in WEBS:
            for place in range(web[0]):
                self.told(web, drawn, web, (place,))

    def test_several(self):
        self.told((3, ((0, 1), (1, 2))), drawn, row(4), (1, 2))
        self.told((4, ((0, 1), (1, 2), (1, 3))), drawn, row(5), (1, 3))
        self.told((3, ((0, 1), (0, 2), (1, 2))), drawn, ring(4), (0, 1))
        self.told((5, ((0, 2), (1, 3))), drawn, MIXED, (0, 2, 5))
        self.told((4, ((0, 1), (1, 2))), drawn, APART, (1, 3, 5))
        self.told((2, ((0, 1),)), drawn, star(4), (1, 2, 3))

    def test_all(self):
        for many in range(1, 9):
            self.told((1, ()), drawn, full(many), tuple(range(many)))
            self.told((1, ()), drawn, (many, ()), tuple(range(many)))

    def test_every_some(self):
        for web in OTHERS + [full(5), (4, ())] + all_webs(4):
            for some in all_some(web[0])[1:]:
                groups = groups_of(web[0], some)
                pairs = itertools.combinations(range(len(groups)), 2)
                ties = tuple(
                    (one, other) for one, other in pairs
                    if any(tuple(sorted(two)) in web[1] for two in itertools.product(groups[one], groups[other]))
                )
                self.assertEqual(drawn(web, some), (len(groups), ties), (web, some))
                self.assertTrue(is_web(drawn(web, some)))

    def test_refusals(self):
        for ask in (new_names, drawn):
            self.no_web(ask, ((0,),), ((),), (None,))
            self.no_places(ask, NO_PLACES + [()])
            for many in range(1, 9):
                for some in [(), (many,), (-1,), (0, many), (0, 0), [0], True, False, (True,), None]:
                    self.refused(NoPlaces, ask, full(many), some)


class DrawnPairing(Asking):
    def test_written_out(self):
        self.told((), drawn_pairing, row(5), (), (0, 1))
        self.told(((2, 3),), drawn_pairing, row(5), ((0, 1), (3, 4)), (0, 1))
        self.told(((1, 2),), drawn_pairing, row(5), ((0, 1), (3, 4)), (0, 1, 2))
        self.told(((0, 1), (2, 3)), drawn_pairing, row(5), ((0, 1), (3, 4)), (1, 2))
        self.told(((0, 1), (3, 4)), drawn_pairing, row(5), ((0, 1), (3, 4)), (3,))
        self.told((), drawn_pairing, row(5), ((0, 1), (3, 4)), (0, 1, 2, 3, 4))
        self.told(((0, 2), (1, 3)), drawn_pairing, MIXED, ((1, 4), (3, 5)), (0, 2, 5))
        self.told(((1, 2),), drawn_pairing, FLOWER, ALONG, (2, 3, 4, 5, 6))
        self.told(((0, 1), (2, 4)), drawn_pairing, full(6), ((0, 3), (2, 5)), (1, 3))
        self.told(((0, 1), (2, 3), (4, 5)), drawn_pairing, full(8), ((0, 1), (2, 3), (4, 5), (6, 7)), (5, 6, 7))

    def test_two_new_ties_with_a_place_in_common(self):
        self.refused(NoWay, drawn_pairing, row(5), ((0, 1), (3, 4)), (1, 3))
        self.refused(NoWay, drawn_pairing, row(5), ((0, 1), (3, 4)), (0, 4))
        self.refused(NoWay, drawn_pairing, row(5), ((0, 1), (3, 4)), (0, 2, 3))
        self.refused(NoWay, drawn_pairing, full(8), ((0, 7), (1, 6), (2, 5), (3, 4)), (0, 1, 2, 3))

    def test_every_pairing_and_some(self):
        for web in OTHERS[:7] + [full(5), ring(6)]:
            for some in all_some(web[0])[1:]:
                names = new_names(web, some)
                for pairing in plain_pairings(web):
                    going = [tie for tie in pairing if not set(tie) <= set(some)]
                    ties = tuple(sorted(tuple(sorted(names[place] for place in tie)) for tie in going))
                    if is_pairing(drawn(web, some), ties):
                        self.assertEqual(drawn_pairing(web, pairing, some), ties, (web, pairing, some))
                    else:
                        self.refused(NoWay, drawn_pairing, web, pairing, some)

    def test_rings_of_blooms_are_never_refused(self):
        for web in OTHERS + [full(6), full(7)]:
            for pairing in plain_pairings(web)[::1 if web[0] < 7 else 7]:
                for stem, around in all_blooms(web, pairing):
                    some = tuple(sorted(around))
                    ties = drawn_pairing(web, pairing, some)
                    self.assertEqual(len(ties), len(pairing) - len(around) // 2)
                    self.assertTrue(is_pairing(drawn(web, some), ties))

    def test_refusals_in_their_order(self):
        self.no_web(drawn_pairing, ((), (0,)), (None, None), ((), ()), (None, (0,)))
        self.no_pairing(drawn_pairing, ((0, 2),), (None,), ((),), ((9,),))
        for thing in NO_PLACES + [()]:
            self.refused(NoPlaces, drawn_pairing, MIXED, (), thing)
            self.refused(NoPlaces, drawn_pairing, MIXED, ((0, 2), (1, 4)), thing)


class LedBack(Asking):
    def test_the_drawn_place_loose(self):
        self.told(((1, 2),), led_back, ring(3), (0, 1, 2), ())
        self.told(((1, 2), (3, 4)), led_back, ring(5), (0, 1, 2, 3, 4), ())
        self.told(((1, 2), (3, 4), (5, 6)), led_back, ring(7), (0, 1, 2, 3, 4, 5, 6), ())
        self.told(((3, 4), (5, 6)), led_back, FLOWER, (2, 3, 4, 5, 6), ())
        self.told(((0, 1), (3, 4), (5, 6)), led_back, FLOWER, (2, 3, 4, 5, 6), ((0, 1),))
        self.told(((1, 4), (2, 5)), led_back, MIXED, (0, 2, 5), ((1, 3),))
        self.told(((3, 5),), led_back, APART, (1, 3, 5), ())

    def test_the_drawn_place_not_loose(self):
        self.told(ALONG, led_back, FLOWER, (2, 3, 4, 5, 6), ((1, 2),))
        self.told(((0, 2), (3, 5)), led_back, MIXED, (0, 2, 5), ((0, 2),))
        self.told(((0, 2), (1, 4), (3, 5)), led_back, MIXED, (0, 2, 5), ((0, 2), (1, 3)))
        self.told(((0, 5), (1, 3)), led_back, APART, (1, 3, 5), ((0, 1),))
        self.told(((1, 5), (2, 3)), led_back, APART, (1, 3, 5), ((1, 2),))
        self.told(((0, 3), (1, 2)), led_back, full(4), (0, 1, 2), ((0, 1),))
        self.told(((0, 1), (2, 3)), led_back, full(4), (1, 2, 3), ((0, 1),))
        self.told(((0, 7), (1, 2), (3, 4), (5, 6)), led_back, full(8), (0, 1, 2, 3, 4, 5, 6), ((0, 1),))
        self.told(((0, 1), (2, 7), (3, 6), (4, 5)), led_back, full(8), (2, 3, 6), ((0, 1), (2, 5), (3, 4)))

    def test_the_same_whichever_way_the_ring_is_told(self):
        for at in range(5):
            around = (2, 3, 4, 5, 6)[at:] + (2, 3, 4, 5, 6)[:at]
            for told in (around, around[::-1]):
                self.told(ALONG, led_back, FLOWER, told, ((1, 2),))
                self.told(((0, 1), (3, 4), (5, 6)), led_back, FLOWER, told, ((0, 1),))
        for around in itertools.permutations((1, 3, 5)):
            self.told(((0, 5), (1, 3)), led_back, APART, around, ((0, 1),))

    def test_the_ring_itself_tells_which_places_are_paired(self):
        self.told(((1, 2), (3, 4)), led_back, full(5), (0, 1, 2, 3, 4), ())
        self.told(((1, 3), (2, 4)), led_back, full(5), (0, 2, 4, 1, 3), ())
        self.told(((1, 4), (2, 3)), led_back, full(5), (0, 1, 4, 2, 3), ())

    def test_all_rings_and_pairings_against_the_words(self):
        for web in [FLOWER, APART, MIXED, ring(5), full(4), full(5), ring(7), OTHERS[5], OTHERS[6], OTHERS[8]]:
            pairings = plain_pairings(web)
            for around in odd_rings(web):
                self.held_to_the_words(web, pairings, around)

    def held_to_the_words(self, web, pairings, around):
        some = tuple(sorted(around))
        groups = groups_of(web[0], some)
        small = drawn(web, some)
        for pairing in plain_pairings(small):
            base = some[0]
            outer = set()
            for one, other in [[groups[name] for name in tie] for tie in pairing]:
                if some in (one, other):
                    far = one[0] if other == some else other[0]
                    base = min(place for place in around if tuple(sorted((place, far))) in web[1])
                    outer.add(tuple(sorted((base, far))))
                else:
                    outer.add((one[0], other[0]))
            steps = {tuple(sorted(step)) for step in zip(around, around[1:] + around[:1])}
            # Just one pairing of the web has these ties outside, and all of the ring but the base paired around it.
            fits = [
                found for found in pairings
                if {tie for tie in found if tie not in steps or base in tie} == outer
                and {place for tie in found for place in tie} >= set(around) - {base}
            ]
            self.assertEqual([led_back(web, around, pairing)], fits, (web, around, pairing))
            self.assertEqual(len(fits[0]), len(pairing) + len(around) // 2)

    def test_most_is_as_many_more_at_least(self):
        for web in OTHERS + [full(6), ring(7)]:
            for around in odd_rings(web)[::5]:
                small = drawn(web, tuple(sorted(around)))
                self.assertGreaterEqual(most(web), most(small) + len(around) // 2, (web, around))

    def test_a_blooms_ring_keeps_what_is_greatest(self):
        for web in OTHERS + [full(5), full(6), ring(7)]:
            many = most(web)
            for pairing in plain_pairings(web):
                for stem, around in all_blooms(web, pairing):
                    some = tuple(sorted(around))
                    small = drawn_pairing(web, pairing, some)
                    self.assertIs(len(pairing) == many, len(small) == most(drawn(web, some)), (web, pairing))

    def test_no_ring(self):
        for thing in NOTHINGS + [(), 0, (0,), (0, 2), (0, 2, 5, 3), (0, 2, 3), (0, 1, 2), [0, 2, 5], (False, 2, 5),
                                 (0, 2, 2), (0, 2, 5, 0), (0, 2, 5, 2, 0), (0, 2, "5"), (0, 2, 7)]:
            for pairing in [(), None, ((0, 2),), ((9, 9),)]:
                self.refused(NoRing, led_back, MIXED, thing, pairing)

    def test_no_pairing_of_the_drawn_web(self):
        for thing in NO_PAIRINGS + [((1, 4),), ((3, 5),), ((0, 2), (1, 4)), ((0, 5),), ((0, 2), (True, 3))]:
            self.refused(NoPairing, led_back, MIXED, (0, 2, 5), thing)
        self.refused(NoPairing, led_back, full(3), (0, 1, 2), ((0, 1),))
        self.refused(NoPairing, led_back, FLOWER, (2, 3, 4, 5, 6), ((1, 2), (3, 4)))

    def test_no_web(self):
        self.no_web(led_back, ((0, 1, 2), ()), (None, None), ((), ()), ((0, 1, 2), None))


if __name__ == "__main__":
    unittest.main()
