"""Tests of 7.3 and 7.4, and of 0.2 to 0.5 where they speak of arrows."""

import itertools
import math
import unittest

from pairwebs.arrows import are_arrows, determinant, first_fair, is_fair, signed, table, table_worth
from pairwebs.errors import NoArrows, TooGreat
from pairwebs.kinds import beside, full, ring, row, sides_web, star
from things import FLOWER, MIXED, NOTHINGS, TWO_STARS, WEBS, Asking, all_webs, plain_pairings

SMALL = [web for many in range(1, 5) for web in all_webs(many)] + all_webs(5)[::9]
FEW_TIES = [web for web in WEBS + SMALL if len(web[1]) <= 10]
# The ring of four with a tie across.
CROSSED = (4, ((0, 1), (0, 3), (1, 2), (1, 3), (2, 3)))
# Ten and eleven ties on eight places.
TEN = (8, tuple(sorted(set(ring(8)[1]) | {(0, 3), (3, 6)})))
ELEVEN = (8, tuple(sorted(set(ring(8)[1]) | {(0, 3), (3, 6), (1, 5)})))

# No arrows of the mixed web, which has five ties.
NO_ARROWS = NOTHINGS + [
    0, 1, (), (1,), (1, 1, 1, 1), (-1, -1, -1, -1), (1, 1, 1, 1, 1, 1), (-1, 1, -1, 1, -1, 1),
    (0, 1, 1, 1, 1), (1, 1, 1, 1, 0), (0, 0, 0, 0, 0), (2, 1, 1, 1, 1), (1, 1, -2, 1, 1), (1, 1, 1, 1, 10 ** 30),
    (True, 1, 1, 1, 1), (1, 1, 1, 1, True), (True, True, True, True, True), (1, False, 1, 1, 1),
    [1, 1, 1, 1, 1], [-1, -1, -1, -1, -1], (1, 1, [1], 1, 1), (1, 1, (1,), 1, 1), (1, 1, (), 1, 1),
    (1, 1, None, 1, 1), (None, 1, 1, 1, 1), ("1", 1, 1, 1, 1), (1, 1, 1, 1, "-1"), (1, 1, 1, {}, 1),
    (1, {1: 1}, 1, 1, 1),
    "11111", {0: 1, 1: 1, 2: 1, 3: 1, 4: 1}, {1: 1}, ((1, 1, 1, 1, 1),), ((1,), (1,), (1,), (1,), (1,)),
    ((0, 2), (0, 5), (1, 4), (2, 5), (3, 5)),
]


def some_arrows(web):
    """A few arrows of a web of every kind: alike, by turns, and by plain sums."""
    many = len(web[1])
    return [
        (1,) * many, (-1,) * many, tuple((-1) ** at for at in range(many)),
        tuple((-1) ** (at * (at + 1) // 2) for at in range(many)), tuple((-1) ** (sum(tie)) for tie in web[1]),
        tuple((-1) ** (at * at // 3) for at in range(many)),
    ]


def turned(places):
    """How many two places stand so that the greater one is ahead."""
    return sum(one > other for one, other in itertools.combinations(places, 2))


def plainly_signed(web, arrows):
    total = 0
    for pairing in plain_pairings(web):
        if 2 * len(pairing) == web[0]:
            signs = [arrows[web[1].index(tie)] for tie in pairing]
            total += (-1) ** turned([place for tie in pairing for place in tie]) * math.prod(signs)
    return total


def over_all_orders(lines):
    """The determinant as the document tells it: over all orders the products, with the order's sign."""
    return sum(
        (-1) ** turned(order) * math.prod(lines[at][place] for at, place in enumerate(order))
        for order in itertools.permutations(range(len(lines)))
    )


class AreArrows(Asking):
    def test_every_choice_of_signs(self):
        for web in [(1, ()), (8, ()), row(2), ring(3), row(5), MIXED]:
            for arrows in itertools.product((-1, 1), repeat=len(web[1])):
                self.told(True, are_arrows, web, arrows)

    def test_one_too_many_and_one_too_few(self):
        for web in WEBS:
            for arrows in some_arrows(web):
                self.told(True, are_arrows, web, arrows)
                self.told(False, are_arrows, web, arrows + (1,))
                self.told(False, are_arrows, web, arrows + arrows + (-1,))
                if arrows:
                    self.told(False, are_arrows, web, arrows[1:])

    def test_other_numbers_truths_lists_and_things_of_every_kind_at_each_place(self):
        for web in [row(2), ring(3), MIXED, full(5)]:
            fine = (1,) * len(web[1])
            for at in range(len(fine)):
                for odd in [0, 2, -2, 3] + [thing for thing in NOTHINGS if thing != -1]:
                    self.told(False, are_arrows, web, fine[:at] + (odd,) + fine[at + 1:])
            self.told(False, are_arrows, web, list(fine))

    def test_what_are_none(self):
        for thing in NO_ARROWS:
            self.told(False, are_arrows, MIXED, thing)

    def test_a_web_without_ties_has_none_but_the_empty_tuple(self):
        for many in range(1, 9):
            self.told(True, are_arrows, (many, ()), ())
            for thing in [[], "", {}, None, 0, False, (1,), (-1,), ((),), [()], 1]:
                self.told(False, are_arrows, (many, ()), thing)

    def test_all_short_tuples_of_a_few_numbers(self):
        for web in [row(2), row(3), ring(3)]:
            for size in range(5):
                for thing in itertools.product((-2, -1, 0, 1, 2, True), repeat=size):
                    fine = size == len(web[1]) and not {repr(arrow) for arrow in thing} - {"1", "-1"}
                    self.assertIs(are_arrows(web, thing), fine, (web, thing))

    def test_nothing_but_no_web_is_refused(self):
        self.no_web(are_arrows, ((),), ((1,),), (None,), ([],), (True,))


class Signed(Asking):
    def test_written_out(self):
        self.told(0, signed, (1, ()), ())
        self.told(0, signed, (2, ()), ())
        self.told(1, signed, row(2), (1,))
        self.told(-1, signed, row(2), (-1,))
        self.told(1, signed, row(4), (1, -1, 1))
        self.told(-1, signed, row(4), (1, 1, -1))
        self.told(0, signed, row(3), (1, 1))
        # Of the ring of four: 0-1 2-3 goes straight, and so does 0-3 1-2.
        self.told(2, signed, ring(4), (1, 1, 1, 1))
        self.told(0, signed, ring(4), (1, 1, 1, -1))
        # 0-2 1-3 has the sign that is turned.
        self.told(-1, signed, (4, ((0, 2), (1, 3))), (1, 1))
        self.told(1, signed, full(4), (1, 1, 1, 1, 1, 1))
        self.told(1, signed, full(8), (1,) * 28)
        self.told(0, signed, full(7), (1,) * 21)
        self.told(0, signed, star(4), (1, -1, 1))

    def test_against_all_whole_pairings_one_by_one(self):
        for web in WEBS + SMALL:
            for arrows in some_arrows(web):
                self.assertEqual(signed(web, arrows), plainly_signed(web, arrows), (web, arrows))

    def test_all_arrows_of_some_webs(self):
        for web in [ring(4), full(4), CROSSED, ring(6), sides_web(3, 3), (6, ((0, 3), (0, 4), (1, 2), (1, 5), (2, 4)))]:
            for arrows in itertools.product((-1, 1), repeat=len(web[1])):
                self.assertEqual(signed(web, arrows), plainly_signed(web, arrows), (web, arrows))


class Table(Asking):
    def test_written_out(self):
        self.told([[0]], table, (1, ()), ())
        self.told([[0, 0], [0, 0]], table, (2, ()), ())
        self.told([[0, 1], [-1, 0]], table, row(2), (1,))
        self.told([[0, -1], [1, 0]], table, row(2), (-1,))
        self.told([[0, 1, -1], [-1, 0, 1], [1, -1, 0]], table, ring(3), (1, -1, 1))
        self.told([[0, -1, 0], [1, 0, 1], [0, -1, 0]], table, row(3), (-1, 1))
        self.told([[0] * 8 for place in range(8)], table, (8, ()), ())

    def test_each_two_places(self):
        for web in WEBS:
            for arrows in some_arrows(web):
                lines = table(web, arrows)
                self.assertEqual([len(line) for line in lines], [web[0]] * web[0])
                for low in range(web[0]):
                    for high in range(low, web[0]):
                        arrow = arrows[web[1].index((low, high))] if (low, high) in web[1] else 0
                        self.assertEqual((lines[low][high], lines[high][low]), (arrow, -arrow), (web, arrows))

    def test_the_list_and_the_lists_within_are_the_askers_own(self):
        for web in [(1, ()), (4, ()), row(4), full(8), MIXED]:
            arrows = (1,) * len(web[1])
            self.own(table, web, arrows)
            lines = table(web, arrows)
            kept = [list(line) for line in lines]
            lines[0][0] = "mine"
            self.assertEqual([line[:] for line in lines[1:]], kept[1:])
            self.told(kept, table, web, arrows)
            for line in lines:
                line.clear()
            self.told(kept, table, web, arrows)
            self.told(table_worth(web, arrows), table_worth, web, arrows)


class TableWorth(Asking):
    def test_written_out(self):
        self.told(0, table_worth, (1, ()), ())
        self.told(0, table_worth, (2, ()), ())
        self.told(1, table_worth, row(2), (1,))
        self.told(1, table_worth, row(2), (-1,))
        self.told(0, table_worth, ring(3), (1, -1, 1))
        self.told(1, table_worth, row(4), (1, 1, -1))
        self.told(4, table_worth, ring(4), (1, 1, 1, 1))
        self.told(0, table_worth, ring(4), (-1, 1, 1, 1))
        self.told(1, table_worth, (4, ((0, 2), (1, 3))), (1, 1))
        self.told(1, table_worth, (4, ((0, 3), (1, 2))), (-1, 1))
        self.told(1, table_worth, full(8), (1,) * 28)
        self.told(9, table_worth, full(4), (-1, 1, -1, -1, -1, -1))

    def test_over_all_orders_of_the_places(self):
        for web in [web for web in WEBS if web[0] < 7] + SMALL:
            for arrows in some_arrows(web)[::2]:
                self.assertEqual(table_worth(web, arrows), over_all_orders(table(web, arrows)), (web, arrows))

    def test_over_all_orders_of_seven_and_eight_places(self):
        for web in [MIXED, full(7), full(8), sides_web(4, 4)]:
            arrows = some_arrows(web)[3]
            self.told(over_all_orders(table(web, arrows)), table_worth, web, arrows)

    def test_the_determinant_of_other_lists(self):
        for one, two, three, four in itertools.product((-2, 0, 1), repeat=4):
            self.told(one * four - two * three, determinant, [[one, two], [three, four]])
        for size in range(1, 6):
            places = range(size)
            for step in range(40):
                lines = [[(step * (at + 2) ** 2 + 3 * at * to + to * to) % 7 - 3 for to in places] for at in places]
                self.told(over_all_orders(lines), determinant, lines)
            for order in itertools.permutations(places):
                lines = [[int(to == place) for to in places] for place in order]
                self.told((-1) ** turned(order), determinant, lines)

    def test_it_is_the_square_of_what_signed_tells(self):
        for web in WEBS + SMALL:
            for arrows in some_arrows(web):
                self.assertEqual(table_worth(web, arrows), plainly_signed(web, arrows) ** 2, (web, arrows))

    def test_it_is_so_of_all_arrows_of_some_webs(self):
        for web in [full(4), CROSSED, sides_web(3, 3), (6, ((0, 3), (0, 4), (1, 2), (1, 5), (2, 4), (3, 5)))]:
            for arrows in itertools.product((-1, 1), repeat=len(web[1])):
                self.assertEqual(table_worth(web, arrows), signed(web, arrows) ** 2, (web, arrows))


class Fair(Asking):
    def test_written_out(self):
        self.told(True, is_fair, (1, ()), ())
        self.told(True, is_fair, (2, ()), ())
        self.told(True, is_fair, row(2), (-1,))
        self.told(True, is_fair, row(4), (1, 1, -1))
        self.told(True, is_fair, ring(4), (1, 1, 1, 1))
        self.told(True, is_fair, ring(4), (-1, -1, 1, 1))
        self.told(True, is_fair, ring(4), (1, -1, 1, -1))
        self.told(False, is_fair, ring(4), (1, 1, 1, -1))
        self.told(False, is_fair, full(4), (1,) * 6)
        self.told(True, is_fair, full(4), (-1, 1, -1, -1, -1, -1))
        self.told(True, is_fair, star(4), (1, -1, 1))
        self.told(True, is_fair, full(7), (1,) * 21)
        self.told(False, is_fair, full(8), (1,) * 28)

    def test_against_all_whole_pairings(self):
        for web in WEBS + SMALL:
            wholes = sum(2 * len(pairing) == web[0] for pairing in plain_pairings(web))
            for arrows in some_arrows(web):
                self.assertIs(is_fair(web, arrows), abs(plainly_signed(web, arrows)) == wholes, (web, arrows))

    def test_refusals_of_all_that_are_handed_arrows(self):
        for ask in (signed, table, table_worth, is_fair):
            self.no_web(ask, ((),), ((1,),), (None,), ([],))
            for thing in NO_ARROWS:
                self.refused(NoArrows, ask, MIXED, thing)
            for many in range(1, 9):
                ties = len(full(many)[1])
                for thing in [(1,) * (ties + 1), [1] * ties, (0,) * ties + (0,), None, (True,) * ties + (1,), ties]:
                    self.refused(NoArrows, ask, full(many), thing)


class FirstFair(Asking):
    def test_written_out(self):
        self.told((), first_fair, (1, ()))
        self.told((), first_fair, (8, ()))
        self.told((-1,), first_fair, row(2))
        self.told((-1, -1, -1), first_fair, row(4))
        self.told((-1, -1, -1, -1), first_fair, ring(4))
        self.told((-1,) * 5, first_fair, CROSSED)
        self.told((-1, -1, -1, -1, 1, -1), first_fair, full(4))
        self.told((-1,) * 10, first_fair, full(5))
        self.told((-1,) * 7, first_fair, TWO_STARS)
        self.told((-1,) * 7, first_fair, FLOWER)

    def test_the_first_as_tuples_rise(self):
        for web in FEW_TIES + [CROSSED, TEN]:
            wholes = sum(2 * len(pairing) == web[0] for pairing in plain_pairings(web))
            found = None
            for arrows in itertools.product((-1, 1), repeat=len(web[1])):
                if abs(plainly_signed(web, arrows)) == wholes:
                    found = arrows
                    break
            self.told(found, first_fair, web)
            if found is not None:
                self.told(True, is_fair, web, found)

    def test_none_where_there_are_none(self):
        self.told(None, first_fair, sides_web(3, 3))
        for arrows in itertools.product((-1, 1), repeat=9):
            self.assertIs(is_fair(sides_web(3, 3), arrows), False)
        self.told(None, first_fair, (6, ((0, 1), (0, 3), (0, 5), (1, 2), (1, 4), (2, 3), (2, 5), (3, 4), (4, 5))))

    def test_ten_ties_are_answered_and_eleven_refused(self):
        self.assertEqual((len(TEN[1]), len(ELEVEN[1])), (10, 11))
        self.assertEqual(len(first_fair(TEN)), 10)
        self.assertIsNone(first_fair(beside(sides_web(3, 3), row(2))))
        for web in [ELEVEN, full(6), full(8), sides_web(4, 4), sides_web(3, 4), sides_web(2, 6), (6, full(6)[1][:11])]:
            refusal = self.refused(TooGreat, first_fair, web)
            self.assertEqual((refusal.many, refusal.most), (len(web[1]), 10))
            self.assertEqual((refusal.many.__class__, refusal.most.__class__), (int, int))

    def test_refusals(self):
        self.no_web(first_fair, ())


if __name__ == "__main__":
    unittest.main()
