"""Tests of 1.1 and 1.2, and of 0.2 to 0.5 where they speak of webs."""

import itertools
import unittest

from pairwebs.errors import NoPlace, NoPlaces, NoWeb
from pairwebs.webs import is_web, near, pieces, pieces_without
from things import MIXED, NO_PLACES, NO_WEBS, NOTHINGS, Asking, all_some, all_webs, joined

ROW = (5, ((0, 1), (1, 2), (2, 3), (3, 4)))
STAR = (4, ((0, 1), (0, 2), (0, 3)))


def all_ties(many):
    return tuple(itertools.combinations(range(many), 2))


class IsWeb(Asking):
    def test_webs_of_each_number_of_places_with_no_ties_and_with_all(self):
        for many in range(1, 9):
            self.told(True, is_web, (many, ()))
            self.told(True, is_web, (many, all_ties(many)))

    def test_all_small_webs(self):
        for many in range(1, 6):
            for web in all_webs(many):
                self.assertIs(is_web(web), True, web)

    def test_webs_written_out(self):
        for web in (MIXED, ROW, STAR, (8, ((0, 7),)), (8, ((6, 7),)), (2, ((0, 1),))):
            self.told(True, is_web, web)

    def test_things_of_every_kind(self):
        for thing in NO_WEBS:
            self.told(False, is_web, thing)

    def test_many_that_is_no_number_of_places(self):
        for many in [0, -1, 9, 10, 10 ** 30, True, False, None, "1", "", (), (1,), [], [1], {}, {1: 1}]:
            self.told(False, is_web, (many, ()))
            self.told(False, is_web, (many, ((0, 1),)))

    def test_ties_that_do_not_rise_or_stand_twice(self):
        for ties in [((0, 2), (0, 1)), ((1, 2), (0, 1)), ((1, 2), (0, 3)), ((0, 1), (0, 1)), ((2, 3), (2, 3)),
                     ((0, 1), (0, 3), (0, 2)), ((0, 1), (1, 2), (1, 2)), ((0, 2), (0, 1), (1, 2))]:
            self.told(False, is_web, (4, ties))

    def test_ties_turned_about_or_of_one_place_twice(self):
        for tie in [(1, 0), (3, 0), (3, 2), (0, 0), (3, 3)]:
            self.told(False, is_web, (4, (tie,)))
        self.told(False, is_web, (4, ((0, 1), (2, 1))))
        self.told(False, is_web, (4, ((0, 1), (2, 2))))

    def test_ties_of_what_is_no_place(self):
        for odd in [-1, 4, 8, 10 ** 30, -(10 ** 30), True, False, None, "0", "", (), (0,), [], [0], {}, {0: 0}]:
            for tie in [(0, odd), (odd, 3), (odd, odd)]:
                self.told(False, is_web, (4, (tie,)))
                self.told(False, is_web, (4, ((0, 2), tie)))
                self.told(False, is_web, (4, (tie, (2, 3))))
        for many in range(1, 9):
            self.told(False, is_web, (many, ((0, many),)))
            self.told(False, is_web, (many, ((-1, 0),)))

    def test_ties_of_a_truth(self):
        for tie in [(False, 1), (0, True), (False, True), (True, 2)]:
            self.told(False, is_web, (3, (tie,)))

    def test_ties_of_another_length_or_kind(self):
        for tie in [(), (0,), (0, 1, 2), (0, 1, 1), [0, 1], {0: 1}, {0: 0, 1: 1}, "01", 0, 1, True, None,
                    ((0, 1),), ((0, 1), (1, 2))]:
            self.told(False, is_web, (3, (tie,)))
            self.told(False, is_web, (3, ((0, 1), tie)))
            self.told(False, is_web, (3, (tie, (1, 2))))

    def test_lists_in_the_place_of_tuples(self):
        for thing in [[2, ((0, 1),)], (2, [(0, 1)]), (2, ([0, 1],)), [2, [[0, 1]]], [2, ()], (2, []),
                      (3, ((0, 1), [1, 2])), (2, {(0, 1): True}), {2: ()}]:
            self.told(False, is_web, thing)

    def test_ties_of_another_kind(self):
        for ties in [None, True, False, 0, 1, "", "01", {}, {(0, 1): 0}, [], (0, 1), (0,), (None,), ("",)]:
            self.told(False, is_web, (2, ties))

    def test_tuples_of_another_length(self):
        for thing in [(), (1,), ((),), (1, (), ()), (2, ((0, 1),), ()), (2, (0, 1), (0, 1)), ((1, ()), (1, ()))]:
            self.told(False, is_web, thing)
        self.told(False, is_web, ((), 1))
        self.told(False, is_web, (((0, 1),), 2))

    def test_all_of_few_numbers_against_a_listing(self):
        webs = {repr(web) for many in range(1, 4) for web in all_webs(many)}
        pairs = list(itertools.product([-1, 0, 1, 2, 3, True], repeat=2))
        for many in [0, 1, 2, 3, True]:
            for size in range(3):
                for ties in itertools.product(pairs, repeat=size):
                    thing = (many, ties)
                    self.assertIs(is_web(thing), repr(thing) in webs, thing)


class Near(Asking):
    def test_every_place_of_webs_written_out(self):
        for place, answer in enumerate([(2, 5), (4,), (0, 5), (5,), (1,), (0, 2, 3), ()]):
            self.told(answer, near, MIXED, place)
        for place, answer in enumerate([(1,), (0, 2), (1, 3), (2, 4), (3,)]):
            self.told(answer, near, ROW, place)
        for place, answer in enumerate([(1, 2, 3), (0,), (0,), (0,)]):
            self.told(answer, near, STAR, place)

    def test_every_place_with_no_ties_and_with_all(self):
        for many in range(1, 9):
            for place in range(many):
                self.told((), near, (many, ()), place)
                others = tuple(other for other in range(many) if other != place)
                self.told(others, near, (many, all_ties(many)), place)

    def test_every_place_of_small_webs(self):
        for many in range(1, 5):
            for web in all_webs(many):
                for place in range(many):
                    other = [sum(tie) - place for tie in web[1] if place in tie]
                    self.told(tuple(sorted(other)), near, web, place)

    def test_no_web(self):
        for thing in NO_WEBS:
            self.refused(NoWeb, near, thing, 0)

    def test_no_web_is_ahead_of_no_place(self):
        for thing in NO_WEBS:
            for place in [-1, 9, True, None, "", [], {}, ()]:
                self.refused(NoWeb, near, thing, place)

    def test_no_place(self):
        for thing in NOTHINGS + [(), (0,), (0, 1)]:
            self.refused(NoPlace, near, MIXED, thing)
        for many in range(1, 9):
            for thing in [many, many + 1, -1, -many, True, False]:
                self.refused(NoPlace, near, (many, all_ties(many)), thing)


class Pieces(Asking):
    def test_webs_written_out(self):
        self.told([(0, 2, 3, 5), (1, 4), (6,)], pieces, MIXED)
        self.told([(0, 1, 2, 3, 4)], pieces, ROW)
        self.told([(0, 3), (1, 2)], pieces, (4, ((0, 3), (1, 2))))
        self.told([(0, 4), (1, 3, 5), (2,)], pieces, (6, ((0, 4), (1, 5), (3, 5))))

    def test_no_ties_and_all(self):
        for many in range(1, 9):
            self.told([(place,) for place in range(many)], pieces, (many, ()))
            self.told([tuple(range(many))], pieces, (many, all_ties(many)))

    def test_long_ways_between_places(self):
        self.told([tuple(range(8))], pieces, (8, ((0, 7), (1, 6), (1, 7), (2, 5), (2, 6), (3, 4), (3, 5))))

    def test_small_webs_against_joining(self):
        for many in range(1, 6):
            for web in all_webs(many):
                self.assertEqual(pieces(web), joined(web, range(many)), web)

    def test_no_web(self):
        for thing in NO_WEBS:
            self.refused(NoWeb, pieces, thing)

    def test_what_was_told_is_the_askers_own(self):
        answer = pieces(MIXED)
        answer.append("mine")
        answer[0] = None
        self.told([(0, 2, 3, 5), (1, 4), (6,)], pieces, MIXED)


class PiecesWithout(Asking):
    def test_none_left_out(self):
        for web in (MIXED, ROW, STAR, (1, ()), (8, ())):
            self.told(pieces(web), pieces_without, web, ())

    def test_a_place_that_parts_a_piece(self):
        self.told([(0, 1), (3, 4)], pieces_without, ROW, (2,))
        self.told([(0,), (2, 3, 4)], pieces_without, ROW, (1,))
        self.told([(1,), (2,), (3,)], pieces_without, STAR, (0,))
        self.told([(0, 2), (1, 4), (3,), (6,)], pieces_without, MIXED, (5,))

    def test_places_that_part_none(self):
        self.told([(1, 2, 3, 4)], pieces_without, ROW, (0,))
        self.told([(0, 1, 3)], pieces_without, STAR, (2,))
        self.told([(0, 2, 3, 5), (1, 4)], pieces_without, MIXED, (6,))
        self.told([(0, 3, 5), (1,), (6,)], pieces_without, MIXED, (2, 4))

    def test_all_left_out(self):
        for many in range(1, 9):
            for ties in ((), all_ties(many)):
                self.told([], pieces_without, (many, ties), tuple(range(many)))

    def test_all_but_one_left_out(self):
        for place in range(7):
            some = tuple(other for other in range(7) if other != place)
            self.told([(place,)], pieces_without, MIXED, some)

    def test_every_some_against_joining(self):
        for web in [MIXED, (8, ((0, 7), (1, 3), (1, 6), (2, 4), (3, 5), (4, 7), (5, 6)))] + all_webs(4):
            for some in all_some(web[0]):
                left = [place for place in range(web[0]) if place not in some]
                self.assertEqual(pieces_without(web, some), joined(web, left), (web, some))

    def test_no_web_ahead_of_no_places(self):
        for thing in NO_WEBS:
            for some in [(), (0,), (9,), [], None, "", True, {}]:
                self.refused(NoWeb, pieces_without, thing, some)

    def test_no_places(self):
        self.no_places(pieces_without, NO_PLACES)

    def test_no_places_of_what_does_not_rise(self):
        for some in [(1, 0), (0, 0), (0, 2, 1), (2, 3, 3), (0, 1, 2, 0), (6, 5)]:
            self.refused(NoPlaces, pieces_without, MIXED, some)

    def test_no_places_of_what_is_not_in_the_web(self):
        for many in range(1, 9):
            for some in [(many,), (-1,), (0, many), (-1, 0), tuple(range(many + 1)), (0, 10 ** 30)]:
                self.refused(NoPlaces, pieces_without, (many, ()), some)

    def test_no_places_of_other_kinds_within_and_around(self):
        for odd in [True, False, None, "", "1", [], [1], {}, {1: 1}, (), (1,)]:
            for some in [(odd,), (0, odd), (odd, 2), (0, odd, 2)]:
                self.refused(NoPlaces, pieces_without, MIXED, some)
        for some in [[], [0], [0, 1], {}, {0: 0}, "", "0", "01", None, True, False, 0, 1]:
            self.refused(NoPlaces, pieces_without, MIXED, some)

    def test_what_was_told_is_the_askers_own(self):
        for some, told in [((), [(0, 1, 2, 3, 4)]), ((2,), [(0, 1), (3, 4)]), ((0, 1, 2, 3, 4), [])]:
            answer = pieces_without(ROW, some)
            answer.insert(0, "mine")
            self.told(told, pieces_without, ROW, some)


if __name__ == "__main__":
    unittest.main()
