"""Tests of 8.1 and 8.3, and of 0.2 to 0.5 where they speak of sides."""

import itertools
import unittest

from pairwebs.blooms import is_ring
from pairwebs.errors import NoPlaces, NoSides
from pairwebs.greatest import most
from pairwebs.kinds import beside, full, ring, row, sides_web, star
from pairwebs.sides import lack, near_some, odd_ring, sides
from things import FLOWER, MIXED, NO_PLACES, TWO_STARS, WEBS, Asking, all_some, all_webs, joined

SMALL = [web for many in range(1, 6) for web in all_webs(many)]
# Rings of five and of seven places with other ties, but no shorter odd ring.
NO_THREE = (8, ((0, 4), (0, 5), (1, 3), (1, 4), (2, 4), (2, 6), (3, 6), (5, 7), (6, 7)))
SEVEN = (8, ((0, 1), (0, 6), (0, 7), (1, 2), (2, 3), (3, 4), (4, 5), (5, 6), (5, 7)))
# Seven places whose sides are mixed, one of which has no tie.
LOPSIDED = (8, ((0, 7), (1, 6), (1, 7), (2, 6), (3, 6), (4, 5)))


def plain_sides(web):
    """The two sides, by going through all halves of the places that are not too many."""
    firsts = [piece[0] for piece in joined(web, range(web[0]))]
    found = [
        left for left in all_some(web[0])
        if all(place in left for place in firsts) and all((low in left) != (high in left) for low, high in web[1])
    ]
    # No two halves go for one web: each piece's least place tells on which side the others are.
    assert len(found) < 2
    return (found[0], tuple(place for place in range(web[0]) if place not in found[0])) if found else None


def plain_odd_ring(web):
    """The first of the shortest odd rings, by all orders of so many places."""
    for size in (3, 5, 7):
        for places in itertools.permutations(range(web[0]), size):
            round_about = zip(places, places[1:] + places[:1])
            if all((min(tie), max(tie)) in web[1] for tie in round_about):
                return places
    return None


def plainly_near(web, some):
    return tuple(sorted({low for low, high in web[1] if high in some} | {high for low, high in web[1] if low in some}))


class Sides(Asking):
    def test_written_out(self):
        self.told(((0,), ()), sides, (1, ()))
        self.told(((0, 1, 2), ()), sides, (3, ()))
        self.told(((0, 1, 2, 3, 4, 5, 6, 7), ()), sides, (8, ()))
        self.told(((0,), (1,)), sides, row(2))
        self.told(((0, 2, 4), (1, 3)), sides, row(5))
        self.told(((0, 2, 4, 6), (1, 3, 5, 7)), sides, ring(8))
        self.told(((0,), (1, 2, 3, 4, 5, 6, 7)), sides, star(8))
        self.told(((0, 1, 2), (3, 4, 5, 6, 7)), sides, sides_web(3, 5))
        self.told(((0, 5, 6, 7), (1, 2, 3, 4)), sides, TWO_STARS)

    def test_the_least_place_of_each_piece_and_a_place_without_ties_are_left(self):
        self.told(((0, 2, 4, 6), (1, 3, 5, 7)), sides, (8, ((0, 1), (2, 3), (4, 5), (6, 7))))
        self.told(((0, 1, 2, 3), (4, 5, 6, 7)), sides, (8, ((0, 7), (1, 6), (2, 5), (3, 4))))
        self.told(((0, 1, 2, 3, 4), (5, 6, 7)), sides, LOPSIDED)
        self.told(((0, 1, 3, 4), (2,)), sides, (5, ((1, 2), (2, 3))))
        self.told(((0, 3), (1, 2)), sides, (4, ((0, 2), (1, 3), (2, 3))))
        self.told(((0, 1, 4), (2, 3)), sides, (5, ((1, 3), (2, 4), (3, 4))))

    def test_none_where_there_are_no_such(self):
        for web in [ring(3), ring(5), ring(7), full(3), full(8), MIXED, FLOWER, NO_THREE, SEVEN,
                    beside(row(4), ring(3)), beside(ring(3), row(4)), beside(ring(4), full(4))]:
            self.told(None, sides, web)

    def test_against_all_halves(self):
        for web in WEBS + SMALL + [NO_THREE, SEVEN, LOPSIDED]:
            self.told(plain_sides(web), sides, web)

    def test_refusals(self):
        self.no_web(sides, ())


class OddRing(Asking):
    def test_written_out(self):
        self.told((0, 1, 2), odd_ring, ring(3))
        self.told((0, 1, 2, 3, 4), odd_ring, ring(5))
        self.told((0, 1, 2, 3, 4, 5, 6), odd_ring, ring(7))
        self.told((0, 1, 2), odd_ring, full(8))
        self.told((0, 2, 5), odd_ring, MIXED)
        self.told((2, 3, 4, 5, 6), odd_ring, FLOWER)
        self.told((0, 1, 2, 3, 4, 5, 6), odd_ring, SEVEN)
        self.told((1, 3, 6, 2, 4), odd_ring, NO_THREE)
        self.told((5, 6, 7), odd_ring, beside(row(5), ring(3)))
        self.told((0, 1, 2), odd_ring, beside(ring(3), ring(5)))
        self.told((5, 6, 7), odd_ring, beside(ring(5), ring(3)))
        self.told((0, 2, 1, 4, 3), odd_ring, (5, ((0, 2), (0, 3), (1, 2), (1, 4), (3, 4))))
        self.told((1, 3, 2, 6, 5), odd_ring, (7, ((0, 1), (1, 3), (1, 5), (2, 3), (2, 6), (4, 6), (5, 6))))

    def test_none_where_there_is_none(self):
        for web in [(1, ()), (8, ()), row(2), row(8), star(8), ring(4), ring(8), sides_web(4, 4), TWO_STARS, LOPSIDED]:
            self.told(None, odd_ring, web)

    def test_against_all_orders(self):
        for web in [web for web in WEBS if web[0] < 8] + SMALL[::3] + [FLOWER, NO_THREE, SEVEN]:
            self.told(plain_odd_ring(web), odd_ring, web)

    def test_it_is_an_odd_ring_with_its_least_place_ahead(self):
        for web in WEBS + SMALL + [NO_THREE, SEVEN]:
            places = odd_ring(web)
            if places is not None:
                self.assertIs(is_ring(web, places), True, web)
                self.assertEqual(min(places), places[0], web)

    def test_just_one_of_both(self):
        for web in WEBS + SMALL + all_webs(6)[::50] + [NO_THREE, SEVEN, LOPSIDED]:
            self.assertIs(sides(web) is None, odd_ring(web) is not None, web)

    def test_refusals(self):
        self.no_web(odd_ring, ())


class NearSome(Asking):
    def test_written_out(self):
        self.told((), near_some, full(8), ())
        self.told((1, 2, 3, 4, 5, 6, 7), near_some, full(8), (0,))
        self.told((0, 1, 2, 3, 4, 5, 6, 7), near_some, full(8), (0, 1))
        self.told((), near_some, (4, ()), (0, 1, 2, 3))
        self.told((1, 3), near_some, row(5), (0, 2, 4))
        self.told((0, 1), near_some, row(2), (0, 1))
        self.told((2, 5), near_some, MIXED, (0,))
        self.told((), near_some, MIXED, (6,))
        self.told((0, 1, 2, 3), near_some, MIXED, (4, 5, 6))
        self.told((0, 1, 2, 3, 4, 5), near_some, MIXED, (0, 1, 2, 3, 4, 5, 6))

    def test_every_some_of_many_webs(self):
        for web in WEBS + [LOPSIDED]:
            for some in all_some(web[0]):
                self.assertEqual(near_some(web, some), plainly_near(web, some), (web, some))

    def test_refusals(self):
        self.no_web(near_some, ((),), ((0,),), (None,), ((9,),))
        self.no_places(near_some, NO_PLACES)
        for many in range(1, 9):
            for some in [(many,), (-1,), (0, 0), (0, many), [], [0], True, (True,), (False,), None, "", {}]:
                self.refused(NoPlaces, near_some, full(many), some)


class Lack(Asking):
    def test_none_lack(self):
        for web in [row(2), row(4), row(8), ring(4), ring(8), star(2), star(8), sides_web(4, 4), sides_web(3, 5)]:
            self.told((0, ()), lack, web)

    def test_written_out(self):
        self.told((1, (0,)), lack, (1, ()))
        self.told((8, (0, 1, 2, 3, 4, 5, 6, 7)), lack, (8, ()))
        self.told((1, (0, 2)), lack, row(3))
        self.told((1, (0, 2, 4)), lack, row(5))
        self.told((2, (0, 1, 2, 3, 4)), lack, sides_web(5, 3))
        self.told((4, (0, 1, 2, 3, 4)), lack, sides_web(5, 1))
        self.told((2, (5, 6, 7)), lack, TWO_STARS)
        self.told((2, (0, 1, 2, 3)), lack, LOPSIDED)

    def test_the_first_some_as_tuples_rise(self):
        # 1 and 3 lack two by themselves, and so do 0, 1 and 3, which stand ahead.
        self.told((2, (0, 1, 3)), lack, (4, ((0, 2),)))
        self.told((1, (0, 1, 2)), lack, (5, ((0, 3), (1, 4), (2, 4))))
        # 0 and 1 lack one, and so do all three, which stand behind.
        self.told((1, (0, 1)), lack, (5, ((0, 3), (1, 3), (2, 4))))
        self.told((1, (0, 1, 2)), lack, (5, ((0, 3), (1, 3), (1, 4), (2, 4))))
        self.told((2, (0, 1, 2, 3)), lack, (6, ((0, 4), (1, 4), (2, 4), (2, 5), (3, 5))))

    def test_against_every_some_of_left(self):
        for web in WEBS + SMALL + [LOPSIDED]:
            both = plain_sides(web)
            if both is None:
                self.refused(NoSides, lack, web)
            else:
                left = [some for some in all_some(web[0]) if all(place in both[0] for place in some)]
                number = max(len(some) - len(plainly_near(web, some)) for some in left)
                first = min(some for some in left if len(some) - len(plainly_near(web, some)) == number)
                self.told((number, first), lack, web)
                self.assertEqual(len(both[0]) - number, most(web), web)

    def test_refusals(self):
        self.no_web(lack, ())
        for web in [ring(3), ring(7), full(3), full(8), MIXED, FLOWER, NO_THREE, SEVEN, beside(row(5), ring(3))]:
            self.refused(NoSides, lack, web)


if __name__ == "__main__":
    unittest.main()
