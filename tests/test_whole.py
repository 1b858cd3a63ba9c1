"""Tests of 0.2 to 0.4 and of the interface over the whole program."""

import inspect
import itertools
import unittest

from pairwebs import arrows, blooms, climbs, counts, covers, desk, drawn, errors, greatest, halves, holding, kinds
from pairwebs import pairings, papers, parts, sides, texts, ways, webs
from things import NO_WEBS, NOTHINGS, SPOILS, Asking, spoiled

# What each module has, and what each function is handed, place by place.
INTERFACE = [
    (webs, "is_web thing", "near web place", "pieces web", "pieces_without web some"),
    (kinds, "row n", "ring ring_n", "full n", "star n", "sides_web n n", "beside web web"),
    (pairings, "is_pairing web thing", "loose web pairing", "mate web pairing place", "all_pairings web"),
    (greatest, "most web", "greatest web", "first_greatest web", "is_full web pairing", "filled web pairing",
     "fewest_full web", "is_whole web pairing", "has_whole web"),
    (ways, "is_way web pairing thing", "all_ways web pairing", "first_way web pairing", "greater web pairing way"),
    (climbs, "climb web pairing", "parted web pairing pairing"),
    (blooms, "is_ring web thing", "is_bloom web pairing thing", "all_blooms web pairing", "first_bloom web pairing"),
    (drawn, "new_names web one_some", "drawn web one_some", "drawn_pairing web pairing one_some",
     "led_back web ring drawn_pairing"),
    (papers, "odd_left web some", "bound web some", "is_paper web pairing thing", "all_papers web", "paper_for web",
     "bar web"),
    (parts, "parts web", "is_short web", "within web one_some", "missed_pieces web", "is_parted web pairing",
     "tie_kinds web"),
    (counts, "by_ties web", "whole_many web", "with_tie web place other_place", "row_of web", "worth web x"),
    (arrows, "are_arrows web thing", "signed web arrows", "table web arrows", "table_worth web arrows",
     "is_fair web arrows", "first_fair web"),
    (sides, "sides web", "odd_ring web", "lack sided_web", "near_some web some"),
    (holding, "holds_ties web some", "first_holding web", "fewest_holding web", "ties_paper web pairing thing"),
    (covers, "is_cover web thing", "first_cover web", "fewest_cover web"),
    (halves, "are_halves web thing", "most_halves web", "first_halves web", "half_bound web thing", "half_paper web",
     "double web"),
    (texts, "shown web", "shown_pairing web pairing", "read text", "read_pairing web pairing_text"),
]
ASKS = [(getattr(module, row.split()[0]), row.split()[1:]) for module, *rows in INTERFACE for row in rows]

# One thing of each kind that is fine: a ring of three with a tail, and what belongs to it.
FINE = {
    "web": (4, ((0, 1), (0, 2), (1, 2), (2, 3))), "sided_web": (4, ((0, 1), (1, 2), (2, 3))),
    "place": 1, "other_place": 2, "some": (0, 3), "one_some": (0, 1), "pairing": ((0, 1),), "way": (2, 3),
    "ring": (0, 1, 2), "drawn_pairing": ((0, 1),), "arrows": (1, -1, 1, -1), "n": 3, "ring_n": 3, "x": 2,
    "text": "4 0-1 0-3", "pairing_text": "0-1", "thing": None,
}
# The same for the web of eight places with all ties.
GREAT = dict(
    FINE, web=kinds.full(8), sided_web=kinds.sides_web(4, 4), arrows=(1,) * 28, n=4, ring_n=8,
    text=texts.shown(kinds.full(8)),
)
REFUSALS = {
    "web": errors.NoWeb, "sided_web": errors.NoWeb, "place": errors.NoPlace, "other_place": errors.NoPlace,
    "some": errors.NoPlaces, "one_some": errors.NoPlaces, "pairing": errors.NoPairing, "way": errors.NoWay,
    "ring": errors.NoRing, "drawn_pairing": errors.NoPairing, "arrows": errors.NoArrows, "n": errors.NoNumber,
    "ring_n": errors.NoNumber, "x": errors.NoNumber, "text": errors.NoText, "pairing_text": errors.NoText,
}
# What is wrong of each kind, besides what comes of the fine one where it is spoiled.
WRONG = {
    "web": [(4, ((0, 4),)), (4, ((1, 0),)), (4, ((0, 1), (0, 1))), (0, ()), (9, ())], "place": [4, 8],
    "some": [(4,), (1, 0)], "one_some": [(), (4,), (1, 1)],
    "pairing": [((0, 3),), ((0, 1), (1, 2)), ((2, 3), (0, 1))],
    "way": [(), (3, 2), (2, 0), (2, 1, 0, 3), (2, 3, 2, 3)],
    "ring": [(), (0, 1), (0, 1, 3), (0, 1, 2, 3), (0, 1, 2, 0, 1)],
    "drawn_pairing": [((0, 2),), ((0, 1), (0, 1)), ((2, 3),)], "arrows": [(), (1, 1, 1), (1, 1, 1, 1, 1), (1, 0, 1, 1)],
    "n": [0, 9], "ring_n": [2, 9], "text": ["4 0-1 ", "none"], "pairing_text": ["0-1,", "0-3"],
}
# What refuses the great web, and with which fields.
TOO_GREAT = {
    kinds.beside: (16, 8), arrows.first_fair: (28, 10), halves.are_halves: (8, 6), halves.most_halves: (8, 6),
    halves.first_halves: (8, 6), halves.half_bound: (8, 6), halves.half_paper: (8, 6), halves.double: (8, 4),
}


def wrong_of(kind):
    """Things of every kind in the place of the fine one: spoiled, and wrong in ways of their own."""
    found = spoiled(FINE[kind]) + WRONG.get(kind, [])
    # Any whole number is fine where one is due.
    return [thing for thing in found if kind != "x" or isinstance(thing, bool) or not isinstance(thing, int)]


def handed(things, kinds_of):
    return [things[kind] for kind in kinds_of]


class Refusals(Asking):
    def test_what_is_fine_is_answered(self):
        for ask, kinds_of in ASKS:
            ask(*handed(FINE, kinds_of))

    def test_each_wrong_thing_by_itself(self):
        for ask, kinds_of in ASKS:
            for at, kind in enumerate(kinds_of):
                if kind != "thing":
                    for thing in wrong_of(kind):
                        things = handed(FINE, kinds_of)
                        things[at] = thing
                        self.refused(REFUSALS[kind], ask, *things)

    def test_what_is_no_web_is_refused_ahead_of_all_else(self):
        for ask, kinds_of in ASKS:
            if kinds_of[0] in ("web", "sided_web"):
                for rest in [handed(FINE, kinds_of[1:]), [None] * (len(kinds_of) - 1), [()] * (len(kinds_of) - 1)]:
                    for thing in NO_WEBS:
                        self.refused(errors.NoWeb, ask, thing, *rest)

    def test_several_wrong_at_once_are_looked_at_from_the_left(self):
        for ask, kinds_of in ASKS:
            dues = [at for at, kind in enumerate(kinds_of) if kind != "thing"]
            for size in range(2, len(dues) + 1):
                for places in itertools.combinations(dues, size):
                    for shift in range(12):
                        things = handed(FINE, kinds_of)
                        for at in places:
                            wrongs = wrong_of(kinds_of[at])
                            things[at] = wrongs[(shift * (at + 5)) % len(wrongs)]
                        self.refused(REFUSALS[kinds_of[places[0]]], ask, *things)

    def test_lookers_refuse_nothing_of_the_thing_that_they_look_at(self):
        fines = [FINE[kind] for kind in REFUSALS] + [((0,), (0, 1, 2)), (1, 1, 1, 1), ((0, 1), (2, 3))]
        things = NO_WEBS + [odd for fine in fines for odd in spoiled(fine)] + fines
        for ask, kinds_of in ASKS:
            if kinds_of[-1] == "thing":
                for thing in things:
                    answer = ask(*handed(FINE, kinds_of[:-1]), thing)
                    kinds_told = (int, None.__class__) if ask is halves.half_bound else (bool,)
                    self.assertIn(answer.__class__, kinds_told, (ask, thing))
                    self.told(answer, ask, *handed(FINE, kinds_of[:-1]), thing)

    def test_a_bloom_a_cover_and_halves_with_other_things_within_are_none(self):
        web = FINE["web"]
        for ask, fine in [
            (lambda thing: blooms.is_bloom(web, ((0, 1),), thing), ((2,), (2, 0, 1))),
            (lambda thing: covers.is_cover(web, thing), ((0, 1), (2, 3))),
            (lambda thing: halves.are_halves(web, thing), (1, 1, 1, 0)),
            (lambda thing: ways.is_way(web, ((0, 1),), thing), FINE["way"]),
            (lambda thing: blooms.is_ring(web, thing), FINE["ring"]),
            (lambda thing: pairings.is_pairing(web, thing), ((0, 1), (2, 3))),
            (lambda thing: papers.is_paper(web, ((0, 1), (2, 3)), thing), (0,)),
            (lambda thing: holding.ties_paper(web, ((0, 1), (2, 3)), thing), (0, 2)),
            (lambda thing: arrows.are_arrows(web, thing), FINE["arrows"]),
            (webs.is_web, web),
        ]:
            self.told(True, ask, fine)
            for thing in spoiled(fine):
                self.told(False, ask, thing)
        self.told(4, halves.half_bound, web, (0, 2, 2, 0))
        for thing in spoiled((0, 2, 2, 0)):
            self.told(None, halves.half_bound, web, thing)

    def test_things_that_spoil_do_spoil(self):
        self.assertEqual(len(spoiled(0)), len(SPOILS) + 3)
        self.assertIn("True", [repr(thing) for thing in spoiled(1)])
        self.assertIn("False", [repr(thing) for thing in spoiled(0)])
        self.assertIn("(4, ((0, None),))", [repr(thing) for thing in spoiled((4, ((0, 1),)))])
        self.assertIn("(4, [(0, 1)])", [repr(thing) for thing in spoiled((4, ((0, 1),)))])


class Answers(Asking):
    def test_the_same_question_has_the_same_answer_whatever_was_asked_in_between(self):
        first = [repr(ask(*handed(FINE, kinds_of))) for ask, kinds_of in ASKS]
        for _ in range(2):
            again = [repr(ask(*handed(FINE, kinds_of))) for ask, kinds_of in reversed(ASKS)]
            self.assertEqual(again[::-1], first)

    def test_nothing_that_is_handed_in_is_changed(self):
        for ask, kinds_of in ASKS:
            self.told(ask(*handed(FINE, kinds_of)), ask, *handed(FINE, kinds_of))

    def test_lists_that_are_told_are_the_askers_own(self):
        lists = [
            (ask, handed(things, kinds_of)) for things in (FINE, GREAT) for ask, kinds_of in ASKS
            if ask not in TOO_GREAT and isinstance(ask(*handed(things, kinds_of)), list)
        ]
        self.assertEqual(len({ask.__name__ for ask, things in lists}), 14)
        for ask, things in lists:
            if ask(*things):
                self.own(ask, *things)

    def test_webs_of_eight_places_with_all_ties_are_answered(self):
        for ask, kinds_of in ASKS:
            if ask not in TOO_GREAT:
                self.told(ask(*handed(GREAT, kinds_of)), ask, *handed(GREAT, kinds_of))
            else:
                refusal = self.refused(errors.TooGreat, ask, *handed(GREAT, kinds_of))
                self.assertEqual((refusal.many, refusal.most), TOO_GREAT[ask])
        told = desk.Desk()
        for line in ["web " + GREAT["text"], "fill", "clear", "grow", "fill", "back"]:
            self.assertEqual(told.say(line), "ok")

    def test_what_was_told_may_be_handed_in_again(self):
        web = texts.read(texts.shown(halves.double(kinds.beside(kinds.row(2), kinds.star(2)))))
        self.told(True, webs.is_web, web)
        pairing = texts.read_pairing(web, texts.shown_pairing(web, greatest.first_greatest(web)))
        self.told(True, pairings.is_pairing, web, pairing)
        self.told(True, papers.is_paper, web, pairing, papers.paper_for(web))
        self.told(True, holding.ties_paper, web, pairing, holding.first_holding(web))
        self.told(True, covers.is_cover, web, covers.first_cover(web))
        self.told(True, arrows.is_fair, web, arrows.first_fair(web))
        small = FINE["web"]
        self.told(True, halves.are_halves, small, halves.first_halves(small))
        self.told(halves.most_halves(small), halves.half_bound, small, halves.half_paper(small))
        self.told(True, blooms.is_ring, small, sides.odd_ring(small))


class Interface(Asking):
    def test_all_is_handed_in_by_its_place(self):
        for ask, kinds_of in ASKS:
            given = inspect.signature(ask).parameters.values()
            self.assertEqual(len(given), len(kinds_of), ask)
            self.assertTrue(all(one.default is one.empty and one.kind != one.KEYWORD_ONLY for one in given), ask)

    def test_how_many_functions_there_are(self):
        self.assertEqual(len(ASKS), len(set(ask for ask, kinds_of in ASKS)))
        self.assertEqual(len(ASKS), 80)

    def test_the_refusals_stand_straight_under_one_class(self):
        names = "Web Place Places Tie Number Pairing Way Ring Arrows Sides Text Line Deed"
        for name in [f"No{what}" for what in names.split()] + ["TooGreat"]:
            self.assertEqual(getattr(errors, name).__bases__, (errors.PairError,))
        self.assertEqual(errors.PairError.__bases__, (ValueError,))

    def test_a_desk_is_made_of_nothing_and_is_told_a_line(self):
        self.assertEqual(len(inspect.signature(desk.Desk).parameters), 0)
        self.assertEqual(len(inspect.signature(desk.Desk().say).parameters), 1)
        for thing in NOTHINGS:
            self.refused(errors.NoLine, desk.Desk().say, thing)


if __name__ == "__main__":
    unittest.main()
