"""Tests of 6.1 to 6.5, and of 0.2 to 0.5 where they speak of parts."""

import itertools
import unittest

from pairwebs.errors import NoPlaces
from pairwebs.greatest import greatest, has_whole, most
from pairwebs.kinds import beside, full, ring, row, sides_web, star
from pairwebs.papers import is_paper
from pairwebs.parts import is_parted, is_short, missed_pieces, parts, tie_kinds, within
from things import FLOWER, MIXED, NO_PLACES, TWO_STARS, WEBS, Asking, all_some, all_webs, joined, plain_pairings

SMALL = [web for many in range(1, 5) for web in all_webs(many)] + all_webs(5)[::3]
# Two rings of three that have place 2 in common.
BOW = (5, ((0, 1), (0, 2), (1, 2), (2, 3), (2, 4), (3, 4)))
# A ring of three and two places by themselves at place 3, and a pair that has a tie with place 3, too.
ALL_PARTS = (8, ((0, 1), (0, 2), (1, 2), (2, 3), (3, 4), (3, 5), (3, 6), (6, 7)))


def plainly_greatest(web):
    pairings = plain_pairings(web)
    many = max(len(pairing) for pairing in pairings)
    return [pairing for pairing in pairings if len(pairing) == many]


def plain_within(web, some):
    """The web of some, by its names: each new tie is one of the web between the places that were these."""
    pairs = itertools.combinations(range(len(some)), 2)
    return (len(some), tuple((one, other) for one, other in pairs if (some[one], some[other]) in web[1]))


def plain_parts(web):
    missed = [
        place for place in range(web[0])
        if any(all(place not in tie for tie in pairing) for pairing in plainly_greatest(web))
    ]
    close = {place for tie in web[1] for place in tie if set(tie) & set(missed)} - set(missed)
    rest = set(range(web[0])) - set(missed) - close
    return (tuple(missed), tuple(sorted(close)), tuple(sorted(rest)))


class Parts(Asking):
    def test_webs_with_a_whole_pairing(self):
        for web in [row(2), row(8), ring(4), ring(6), full(4), full(8), sides_web(4, 4)]:
            self.told(((), (), tuple(range(web[0]))), parts, web)
            self.told([], missed_pieces, web)

    def test_odd_rings_and_webs_like_them(self):
        for web in [(1, ()), ring(3), ring(5), ring(7), full(5), full(7), BOW]:
            self.told((tuple(range(web[0])), (), ()), parts, web)
            self.told([tuple(range(web[0]))], missed_pieces, web)

    def test_stars(self):
        for many in range(3, 9):
            self.told((tuple(range(1, many)), (0,), ()), parts, star(many))
            self.told([(place,) for place in range(1, many)], missed_pieces, star(many))

    def test_webs_without_ties(self):
        for many in range(1, 9):
            self.told((tuple(range(many)), (), ()), parts, (many, ()))
            self.told([(place,) for place in range(many)], missed_pieces, (many, ()))

    def test_webs_in_several_pieces(self):
        self.told(((6,), (), (0, 1, 2, 3, 4, 5)), parts, MIXED)
        self.told([(6,)], missed_pieces, MIXED)
        self.told(((0, 2), (1,), (3, 4)), parts, beside(row(3), row(2)))
        self.told([(0,), (2,)], missed_pieces, beside(row(3), row(2)))
        self.told((tuple(range(8)), (), ()), parts, beside(ring(3), ring(5)))
        self.told([(0, 1, 2), (3, 4, 5, 6, 7)], missed_pieces, beside(ring(3), ring(5)))

    def test_webs_with_all_three_parts(self):
        self.told(((0, 1, 2, 4, 5), (3,), (6, 7)), parts, ALL_PARTS)
        self.told([(0, 1, 2), (4,), (5,)], missed_pieces, ALL_PARTS)
        self.told(((0, 2, 4), (1, 3), ()), parts, row(5))
        self.told([(0,), (2,), (4,)], missed_pieces, row(5))
        self.told(((2, 3, 4, 5, 6, 7), (0, 1), ()), parts, TWO_STARS)

    def test_against_plain_listing(self):
        for web in WEBS + SMALL + [ALL_PARTS, BOW]:
            missed, close, rest = plain_parts(web)
            self.assertEqual(parts(web), (missed, close, rest), web)
            self.assertEqual(missed_pieces(web), joined(web, missed), web)

    def test_what_holds_of_the_parts(self):
        for web in WEBS + SMALL + [ALL_PARTS, BOW]:
            missed, close, rest = parts(web)
            for pairing in greatest(web):
                self.assertIs(is_paper(web, pairing, close), True, (web, pairing))
            if rest:
                self.assertIs(has_whole(within(web, rest)), True, web)
            for piece in missed_pieces(web):
                self.assertIs(is_short(within(web, piece)), True, (web, piece))

    def test_refusals_and_own_lists(self):
        for ask in (parts, missed_pieces):
            self.no_web(ask, ())
        for web in [(1, ()), row(4), star(8), full(8)]:
            self.own(missed_pieces, web)


class Short(Asking):
    def test_written_out(self):
        self.told(True, is_short, (1, ()))
        self.told(True, is_short, BOW)
        self.told(False, is_short, ALL_PARTS)
        self.told(False, is_short, MIXED)
        self.told(False, is_short, FLOWER)
        self.told(False, is_short, beside(ring(3), ring(5)))
        self.told(False, is_short, beside(ring(3), row(2)))

    def test_plain_kinds(self):
        for many in range(1, 9):
            self.told(many == 1, is_short, row(many))
            self.told(many == 1, is_short, star(many))
            self.told(many == 1, is_short, (many, ()))
            self.told(many in (1, 3, 5, 7), is_short, full(many))
        for many in range(3, 9):
            self.told(many in (3, 5, 7), is_short, ring(many))

    def test_against_what_is_left_without_each_place(self):
        for web in WEBS + SMALL:
            short = True
            for place in range(web[0]):
                ties = tuple(tie for tie in web[1] if place not in tie)
                short = short and 2 * most((web[0], ties)) == web[0] - 1
            self.assertIs(is_short(web), short, web)

    def test_refusals(self):
        self.no_web(is_short, ())


class Within(Asking):
    def test_written_out(self):
        self.told((1, ()), within, full(8), (5,))
        self.told((2, ((0, 1),)), within, full(8), (3, 6))
        self.told((2, ()), within, row(4), (0, 2))
        self.told((3, ((1, 2),)), within, row(5), (0, 3, 4))
        self.told((3, ((0, 1), (0, 2), (1, 2))), within, MIXED, (0, 2, 5))
        self.told((4, ((0, 3), (1, 2))), within, MIXED, (0, 1, 4, 5))
        self.told((5, ((0, 1), (0, 4), (1, 2), (2, 3), (3, 4))), within, FLOWER, (2, 3, 4, 5, 6))

    def test_all_of_them(self):
        for web in WEBS:
            self.told(web, within, web, tuple(range(web[0])))

    def test_every_some(self):
        for web in [MIXED, FLOWER, ALL_PARTS, TWO_STARS, full(6)]:
            for some in all_some(web[0])[1:]:
                self.assertEqual(within(web, some), plain_within(web, some), (web, some))

    def test_refusals(self):
        self.no_web(within, ((0,),), ((),), (None,))
        self.no_places(within, NO_PLACES + [()])
        for many in range(1, 9):
            for some in [(), (many,), (-1,), (0, many), (0, 0), [0], True, False, (True,), None]:
                self.refused(NoPlaces, within, full(many), some)


class IsParted(Asking):
    def test_written_out(self):
        self.told(True, is_parted, (1, ()), ())
        self.told(False, is_parted, row(2), ())
        self.told(True, is_parted, row(2), ((0, 1),))
        self.told(True, is_parted, star(4), ((0, 2),))
        self.told(False, is_parted, star(4), ())
        self.told(True, is_parted, ALL_PARTS, ((0, 1), (2, 3), (6, 7)))
        self.told(True, is_parted, ALL_PARTS, ((1, 2), (3, 5), (6, 7)))
        self.told(False, is_parted, ALL_PARTS, ((1, 2), (3, 6)))
        self.told(False, is_parted, ALL_PARTS, ((1, 2), (6, 7)))
        self.told(False, is_parted, ALL_PARTS, ((2, 3), (6, 7)))
        self.told(False, is_parted, ALL_PARTS, ((0, 1), (2, 3)))
        self.told(False, is_parted, ALL_PARTS, ())

    def test_just_the_greatest_ones_are(self):
        for web in WEBS + SMALL + [ALL_PARTS, BOW]:
            many = most(web)
            for pairing in plain_pairings(web)[::1 if web[0] < 8 else 3]:
                self.assertIs(is_parted(web, pairing), len(pairing) == many, (web, pairing))

    def test_refusals(self):
        self.no_web(is_parted, ((),), (None,), (((0, 1), (0, 1)),))
        self.no_pairing(is_parted, ())


class TieKinds(Asking):
    def test_written_out(self):
        self.told(((), (), ()), tie_kinds, (1, ()))
        self.told(((), (), ()), tie_kinds, (8, ()))
        self.told((((0, 1),), (), ()), tie_kinds, row(2))
        self.told((((0, 1), (2, 3)), (), ((1, 2),)), tie_kinds, row(4))
        self.told(((), ((0, 1), (1, 2), (2, 3), (3, 4)), ()), tie_kinds, row(5))
        self.told((((0, 2), (1, 4), (3, 5)), (), ((0, 5), (2, 5))), tie_kinds, MIXED)
        self.told(((), star(5)[1], ()), tie_kinds, star(5))
        self.told(((), full(8)[1], ()), tie_kinds, full(8))
        self.told((((6, 7),), ((0, 1), (0, 2), (1, 2), (2, 3), (3, 4), (3, 5)), ((3, 6),)), tie_kinds, ALL_PARTS)
        self.told(((), TWO_STARS[1][1:], ((0, 1),)), tie_kinds, TWO_STARS)

    def test_against_all_greatest_pairings(self):
        for web in WEBS + SMALL + [ALL_PARTS, BOW]:
            sets = [set(pairing) for pairing in plainly_greatest(web)]
            always = set.intersection(*sets)
            ever = set.union(*sets)
            never = set(web[1]) - ever
            kinds = tuple(tuple(sorted(ties)) for ties in (always, ever - always, never))
            self.assertEqual(tie_kinds(web), kinds, web)
            self.assertEqual(sorted(kinds[0] + kinds[1] + kinds[2]), list(web[1]))

    def test_ties_between_places_beside_or_of_one_of_these_and_the_rest_are_in_none(self):
        for web in WEBS + SMALL + [ALL_PARTS, BOW]:
            missed, close, rest = parts(web)
            for one, other in web[1]:
                if (one in close and other in close + rest) or (other in close and one in close + rest):
                    self.assertIn((one, other), tie_kinds(web)[2], web)

    def test_refusals(self):
        self.no_web(tie_kinds, ())


if __name__ == "__main__":
    unittest.main()
