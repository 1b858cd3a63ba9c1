"""Tests of 10.2 to 10.4, and of 0.2 to 0.4 where they speak of the desk."""

import itertools
import random
import re
import unittest

from pairwebs.desk import Desk
from pairwebs.errors import NoDeed, NoLine, NoPlace, NoText, NoTie, NoWay
from pairwebs.kinds import full, ring, row, star
from pairwebs.texts import shown
from things import FLOWER, MIXED, NOTHINGS, TWO_STARS, Asking, all_some, joined, plain_pairings

QUESTIONS = "web pairing loose most full whole way paper bar counts parts sides cover".split()
OF_TWO = ["tie", "cut", "pair", "part"]
OF_ONE = ["grow", "fill", "clear", "back"]
# What a new desk answers.
NEW = ["1", "none", "0", "0", "0", "no", "none", "none", "none", "1", "0 ; none ; none", "0 ; none", "no"]

NO_LINES = [
    "", " ", "  ", "\n", "wbe", "WEB", "Web", "webs", " web", "web\n", "\nweb", "web\n4", "web\t4", "web4", "web,4",
    "pairings", "Pairing", "pairing ", " pairing", "pairing 0", "loose ", "loose 0", " loose", "most 1", "most ",
    "MOST", "full 8", "full ", "whole ", "whole yes", "way ", "way 0 1", "paper ", "paper 0", "bar ", "bars",
    "counts ", "count", "parts ", "parts ;", "part", "sides ", "side", "cover ", "covers", "grow ", " grow", "grow 1",
    "Grow", "GROW", "grow\n", "grow grow", "fill ", "fill 0 1", "FILL", "filled", "clear ", " clear", "clear all",
    "clear\n", "back ", " back", "back 1", "back back", "BACK", "back\n", "ok", "no", "none", "yes", "0", "1", "0 1",
    "0-1", "4 0-1", "say web", "tie", "tie ", "tie 0", "tie 0 ", "tie  0 1", "tie 0  1", "tie 0 1 ", " tie 0 1",
    "tie 0 1 2", "tie 0-1", "tie 0,1", "tie 0 10", "tie 10 0", "tie 00 1", "tie 0 01", "tie -1 0", "tie 0 -1",
    "tie +0 1", "tie 0 +1", "tie a b", "tie 0 a", "tie 0 1\n", "tie 0\n1", "tie\n0 1", "Tie 0 1", "TIE 0 1",
    "ties 0 1", "tie 0 none", "tie none", "tie 0 1.0", "tie  ", "cut", "cut 0", "cut 0 ", "cut 0  1", "cut 0 1 2",
    "cut 0-1", "cut 0 12", "cut 0 -1", "Cut 0 1", "cut 0 1 ", "cut a 1", "pair", "pair 0", "pair 0 ", "pair 0  1",
    "pair 0 1 2", "pair 0-1", "pair 0 12", "pair +0 1", "PAIR 0 1", "pair 0 1 ", "part 0", "part 0 ", "part 0  1",
    "part 0 1 2", "part 0-1", "part 00 1", "part 0 -1", "Part 0 1", "part 0 1 ", "parts 0 1", "grow 0 1", "back 0 1",
    "clear 0 1", "loose 0 1", "most 0 1", "tie 0 \u0661", "tie \u00b2 1", "tie ~ ~",
]


def told_of(desk):
    """What a desk answers to all questions."""
    return [desk.say(question) for question in QUESTIONS]


def desk_behind(*deeds):
    """A desk behind some deeds, none of which is refused."""
    desk = Desk()
    for deed in deeds:
        assert desk.say(deed) == "ok", deed
    return desk


def words(places):
    return " ".join(map(str, places)) or "none"


def dashes(ties):
    return ",".join(f"{low}-{high}" for low, high in ties) or "none"


class Plain:
    """A desk by other means: it keeps its deeds alone, and goes through them anew for each answer."""

    def __init__(self):
        self.deeds = []

    def say(self, line):
        if line in QUESTIONS:
            return self.answer(line, *self.kept())
        if line == "back":
            if not self.deeds:
                raise NoDeed
            self.deeds.pop()
        else:
            self.done(line, *self.kept())
            self.deeds.append(line)
        return "ok"

    def kept(self):
        web, pairing = (1, ()), ()
        for deed in self.deeds:
            web, pairing = self.done(deed, web, pairing)
        return web, pairing

    def done(self, deed, web, pairing):
        word, _, rest = deed.partition(" ")
        if deed.startswith("web "):
            return self.web_of(rest), ()
        if word in OF_TWO and re.fullmatch("[0-9] [0-9]", rest):
            places = sorted((int(rest[0]), int(rest[2])))
            if max(places) >= web[0]:
                raise NoPlace
            return self.done_of_two(word, tuple(places), web, pairing)
        if deed == "clear":
            return web, ()
        if deed == "fill":
            for tie in web[1]:
                if not {place for other in pairing for place in other} & set(tie):
                    pairing = tuple(sorted(pairing + (tie,)))
            return web, pairing
        if deed == "grow":
            ways = self.ways(web, pairing)
            if not ways:
                raise NoWay
            ties = {tuple(sorted(tie)) for tie in zip(min(ways), min(ways)[1:])}
            return web, tuple(sorted(ties ^ set(pairing)))
        raise NoLine

    def web_of(self, text):
        if not re.fullmatch("[1-8]( [0-7]-[0-7])*", text):
            raise NoText
        ties = [tuple(map(int, tie.split("-"))) for tie in text.split()[1:]]
        if ties != sorted(set(ties)) or not all(low < high < int(text[0]) for low, high in ties):
            raise NoText
        return int(text[0]), tuple(ties)

    def done_of_two(self, word, tie, web, pairing):
        if tie[0] == tie[1] or (word in ("pair", "part") and tie not in web[1]):
            raise NoTie
        taken = {place for other in pairing for place in other}
        refused = {
            "tie": tie in web[1], "cut": tie not in web[1], "pair": taken & set(tie), "part": tie not in pairing,
        }
        if refused[word]:
            raise NoDeed
        ties = set(web[1]) ^ ({tie} if word in ("tie", "cut") else set())
        pairs = (set(pairing) | ({tie} if word == "pair" else set())) - ({tie} if word in ("cut", "part") else set())
        return (web[0], tuple(sorted(ties))), tuple(sorted(pairs))

    def ways(self, web, pairing):
        loose = [place for place in range(web[0]) if not any(place in tie for tie in pairing)]
        found = []
        for size in (2, 4, 6, 8):
            for places in itertools.permutations(range(web[0]), size):
                if places[0] in loose and places[-1] in loose and places[0] < places[-1]:
                    ties = [tuple(sorted(tie)) for tie in zip(places, places[1:])]
                    turns = all((tie in pairing) == bool(at % 2) for at, tie in enumerate(ties))
                    if turns and all(tie in web[1] for tie in ties):
                        found.append(places)
        return found

    def answer(self, question, web, pairing):
        places = range(web[0])
        pairings = plain_pairings(web)
        many = max(map(len, pairings))
        free = {ties: [place for place in places if not any(place in tie for tie in ties)] for ties in pairings}
        full_ones = [ties for ties in pairings if not any(set(tie) <= set(free[ties]) for tie in web[1])]
        somes = sorted(all_some(web[0]))
        odd = {some: sum(len(piece) % 2 for piece in joined(web, [place for place in places if place not in some]))
               for some in somes}
        papers = [some for some in somes if web[0] + len(some) - odd[some] == 2 * many]
        bars = [some for some in somes if odd[some] > len(some)]
        missed = sorted({place for ties in pairings if len(ties) == many for place in free[ties]})
        beside = sorted({place for tie in web[1] for place in tie if set(tie) & set(missed)} - set(missed))
        rest = [place for place in places if place not in missed + beside]
        lefts = [left for left in somes if all((low in left) != (high in left) for low, high in web[1])
                 and all(piece[0] in left for piece in joined(web, places))]
        covers = [ties for size in range(web[0]) for ties in itertools.combinations(web[1], size)
                  if {place for tie in ties for place in tie} == set(places)]
        ways = self.ways(web, pairing)
        return {
            "web": " ".join([str(web[0])] + [f"{low}-{high}" for low, high in web[1]]),
            "pairing": dashes(pairing), "loose": words(free[pairing]), "most": str(many),
            "full": str(min(map(len, full_ones))), "whole": "yes" if many * 2 == web[0] else "no",
            "way": words(min(ways)) if ways else "none", "paper": words(papers[0]),
            "bar": words(bars[0]) if bars else "no",
            "counts": " ".join(str(sum(len(ties) == size for ties in pairings)) for size in range(many + 1)),
            "parts": " ; ".join(map(words, (missed, beside, rest))),
            "sides": " ; ".join([words(lefts[0]), words(set(places) - set(lefts[0]))]) if lefts else "no",
            "cover": dashes(covers[0]) if covers else "no",
        }[question]


class Desks(Asking):
    def unsaid(self, desk, refusal, line):
        """The line is refused with this very class, twice, and changes nothing that is told."""
        ahead = told_of(desk)
        self.refused(refusal, desk.say, line)
        self.assertEqual(told_of(desk), ahead, line)

    def answers(self, desk, **told):
        for question, answer in told.items():
            for _ in range(2):
                self.assertEqual(desk.say(question), answer, question)

    def test_a_new_desk(self):
        self.assertEqual(told_of(Desk()), NEW)
        for question, answer in zip(QUESTIONS, NEW):
            self.assertEqual(Desk().say(question), answer)
        self.unsaid(Desk(), NoDeed, "back")
        self.unsaid(Desk(), NoWay, "grow")


class WebDeeds(Desks):
    def test_the_web_is_kept_with_no_pairing(self):
        for web in [(1, ()), (8, ()), row(4), MIXED, full(8), star(8), TWO_STARS]:
            desk = desk_behind("web 4 0-1 2-3", "pair 0 1")
            self.assertEqual(desk.say("web " + shown(web)), "ok")
            self.answers(desk, web=shown(web), pairing="none")

    def test_what_writes_no_web(self):
        for text in [
            "", " ", "  ", "0", "9", "10", " 4", "4 ", "4  0-1", "4 0-1 0-1", "4 1-0", "4 0-4", "4\n", "\n4", "web",
            "web 4", "tie 0 1", "grow", "back", "4 0-1,0-3", "none", "pairing", "clear", "web ", "a", "4 0-3 0-1",
        ]:
            self.unsaid(Desk(), NoText, "web " + text)
            self.unsaid(desk_behind("web 3 0-1", "grow"), NoText, "web " + text)

    def test_a_refused_web_leaves_the_deeds_as_they_were(self):
        desk = desk_behind("web 3 0-1", "grow")
        self.unsaid(desk, NoText, "web ")
        self.assertEqual(desk.say("back"), "ok")
        self.answers(desk, web="3 0-1", pairing="none")


class TieAndCut(Desks):
    def test_a_tie_is_put_in_its_place_in_either_order(self):
        for one, other in [("0", "2"), ("2", "0")]:
            desk = desk_behind("web 4 0-1 1-2 2-3", f"tie {one} {other}")
            self.answers(desk, web="4 0-1 0-2 1-2 2-3", pairing="none")

    def test_the_pairing_stays(self):
        desk = desk_behind("web 4 0-1 2-3", "pair 2 3", "tie 1 2", "tie 3 0")
        self.answers(desk, web="4 0-1 0-3 1-2 2-3", pairing="2-3")

    def test_tie_refusals_in_their_order(self):
        desk = desk_behind("web 4 0-1 2-3", "pair 0 1")
        for line in ["tie 0 4", "tie 4 0", "tie 9 9", "tie 4 4", "tie 8 1", "tie 1 8"]:
            self.unsaid(desk, NoPlace, line)
        for place in range(4):
            self.unsaid(desk, NoTie, f"tie {place} {place}")
        for line in ["tie 0 1", "tie 1 0", "tie 2 3", "tie 3 2"]:
            self.unsaid(desk, NoDeed, line)
        self.unsaid(Desk(), NoTie, "tie 0 0")
        self.unsaid(Desk(), NoPlace, "tie 0 1")
        self.unsaid(Desk(), NoPlace, "tie 1 1")

    def test_a_tie_is_cut_in_either_order(self):
        for one, other in [("1", "2"), ("2", "1")]:
            desk = desk_behind("web 4 0-1 1-2 2-3", f"cut {one} {other}")
            self.answers(desk, web="4 0-1 2-3", pairing="none")

    def test_it_is_cut_out_of_the_pairing_too_and_nothing_else_is(self):
        desk = desk_behind("web 4 0-1 1-2 2-3", "fill", "cut 3 2")
        self.answers(desk, web="4 0-1 1-2", pairing="0-1", loose="2 3")
        desk = desk_behind("web 4 0-1 1-2 2-3", "fill", "cut 1 2")
        self.answers(desk, web="4 0-1 2-3", pairing="0-1,2-3")

    def test_cut_refusals_in_their_order(self):
        desk = desk_behind("web 4 0-1 2-3", "pair 0 1")
        for line in ["cut 0 4", "cut 4 0", "cut 9 9", "cut 4 4", "cut 8 1", "cut 1 8"]:
            self.unsaid(desk, NoPlace, line)
        for place in range(4):
            self.unsaid(desk, NoTie, f"cut {place} {place}")
        for line in ["cut 0 2", "cut 2 0", "cut 1 3", "cut 3 0"]:
            self.unsaid(desk, NoDeed, line)
        self.unsaid(Desk(), NoTie, "cut 0 0")
        self.unsaid(Desk(), NoPlace, "cut 0 1")


class PairAndPart(Desks):
    def test_a_tie_is_put_to_the_pairing_in_either_order(self):
        desk = desk_behind("web 4 0-1 1-2 2-3", "pair 3 2")
        self.answers(desk, web="4 0-1 1-2 2-3", pairing="2-3", loose="0 1")
        self.assertEqual(desk.say("pair 0 1"), "ok")
        self.answers(desk, pairing="0-1,2-3", loose="none")

    def test_pair_refusals_in_their_order(self):
        desk = desk_behind("web 5 0-1 1-2 2-3 3-4", "pair 1 2")
        for line in ["pair 0 5", "pair 5 0", "pair 9 9", "pair 5 5", "pair 1 8"]:
            self.unsaid(desk, NoPlace, line)
        for line in ["pair 0 0", "pair 1 1", "pair 0 2", "pair 2 0", "pair 1 3", "pair 4 0"]:
            self.unsaid(desk, NoTie, line)
        for line in ["pair 1 2", "pair 2 1", "pair 0 1", "pair 1 0", "pair 2 3", "pair 3 2"]:
            self.unsaid(desk, NoDeed, line)
        self.unsaid(Desk(), NoTie, "pair 0 0")
        self.unsaid(Desk(), NoPlace, "pair 0 1")

    def test_a_tie_is_taken_out_of_the_pairing_in_either_order(self):
        for one, other in [("0", "1"), ("1", "0")]:
            desk = desk_behind("web 4 0-1 1-2 2-3", "fill", f"part {one} {other}")
            self.answers(desk, web="4 0-1 1-2 2-3", pairing="2-3", loose="0 1")

    def test_part_refusals_in_their_order(self):
        desk = desk_behind("web 5 0-1 1-2 2-3 3-4", "pair 1 2")
        for line in ["part 0 5", "part 5 0", "part 9 9", "part 5 5", "part 1 8"]:
            self.unsaid(desk, NoPlace, line)
        for line in ["part 0 0", "part 1 1", "part 0 2", "part 2 0", "part 1 3", "part 4 0"]:
            self.unsaid(desk, NoTie, line)
        for line in ["part 0 1", "part 1 0", "part 2 3", "part 3 4"]:
            self.unsaid(desk, NoDeed, line)
        self.unsaid(Desk(), NoTie, "part 0 0")
        self.unsaid(Desk(), NoPlace, "part 0 1")


class GrowFillClear(Desks):
    def test_grow_goes_by_the_first_way(self):
        desk = desk_behind("web 4 0-1 1-2 2-3", "pair 1 2", "grow")
        self.answers(desk, pairing="0-1,2-3", way="none")
        self.unsaid(desk, NoWay, "grow")
        desk = desk_behind("web " + shown(FLOWER), "pair 1 2", "pair 3 4", "pair 5 6")
        self.unsaid(desk, NoWay, "grow")
        desk = desk_behind("web " + shown(full(8)))
        for way, pairing in [("0 1", "0-1"), ("2 0 1 3", "0-2,1-3"), ("4 0 2 1 3 5", "0-4,1-2,3-5"),
                             ("6 0 4 1 2 3 5 7", "0-6,1-4,2-3,5-7")]:
            self.answers(desk, way=way)
            self.assertEqual(desk.say("grow"), "ok")
            self.answers(desk, pairing=pairing)
        self.unsaid(desk, NoWay, "grow")
        self.unsaid(desk_behind("web 3"), NoWay, "grow")

    def test_fill_puts_the_first_ties_that_fit(self):
        self.answers(desk_behind("web 4 0-1 1-2 2-3", "fill"), pairing="0-1,2-3")
        self.answers(desk_behind("web 4 0-1 1-2 2-3", "pair 1 2", "fill"), pairing="1-2")
        self.answers(desk_behind("web 4 0-2 0-3 1-2", "fill"), pairing="0-2")
        self.answers(desk_behind("web 3", "fill"), pairing="none")

    def test_clear_leaves_the_web(self):
        self.answers(desk_behind("web 4 0-1 1-2 2-3", "fill", "clear"), web="4 0-1 1-2 2-3", pairing="none")

    def test_fill_and_clear_are_deeds_also_where_they_change_nothing(self):
        for deed in ["fill", "clear"]:
            desk = desk_behind("web 2 0-1", "cut 0 1", deed, deed)
            for ahead in ["2", "2", "2 0-1", "1"]:
                self.assertEqual(desk.say("back"), "ok")
                self.answers(desk, web=ahead)
            self.unsaid(desk, NoDeed, "back")


class Back(Desks):
    def test_behind_each_kind_of_deed(self):
        for deed in ["web 3", "web 5 0-1 1-2 2-3 3-4", "tie 0 2", "cut 1 2", "cut 3 4", "pair 3 4", "part 1 2", "grow",
                     "fill", "clear"]:
            desk = desk_behind("web 5 0-1 1-2 2-3 3-4", "pair 1 2")
            ahead = told_of(desk)
            self.assertEqual(desk.say(deed), "ok")
            self.assertNotEqual(told_of(desk), ahead, deed)
            self.assertEqual(desk.say("back"), "ok")
            self.assertEqual(told_of(desk), ahead, deed)
            self.assertEqual(desk.say("back"), "ok")
            self.answers(desk, web="5 0-1 1-2 2-3 3-4", pairing="none")

    def test_several_times_and_past_the_first_one(self):
        desk = Desk()
        seen = [told_of(desk)]
        for deed in ["web 4 0-1 1-2", "tie 2 3", "pair 1 2", "grow", "clear", "clear", "fill", "cut 0 1", "web 1"]:
            self.assertEqual(desk.say(deed), "ok")
            seen.append(told_of(desk))
        while len(seen) > 1:
            self.assertEqual(told_of(desk), seen.pop())
            self.assertEqual(desk.say("back"), "ok")
        self.assertEqual(told_of(desk), NEW)
        for _ in range(3):
            self.unsaid(desk, NoDeed, "back")

    def test_back_itself_is_not_undone(self):
        desk = desk_behind("web 2 0-1", "grow", "back", "back")
        self.assertEqual(told_of(desk), NEW)
        self.unsaid(desk, NoDeed, "back")
        desk = desk_behind("web 2 0-1", "grow", "back", "fill", "back", "back")
        self.assertEqual(told_of(desk), NEW)

    def test_behind_deeds_that_were_refused(self):
        desk = desk_behind("web 4 0-1 2-3", "pair 0 1")
        for refusal, line in [(NoText, "web 0"), (NoPlace, "tie 0 7"), (NoTie, "tie 1 1"), (NoDeed, "tie 0 1"),
                              (NoDeed, "cut 0 2"), (NoDeed, "pair 0 1"), (NoTie, "part 0 2"), (NoLine, "Back")]:
            self.unsaid(desk, refusal, line)
        self.assertEqual(desk.say("back"), "ok")
        self.answers(desk, web="4 0-1 2-3", pairing="none")
        desk = desk_behind("web 2 0-1", "grow")
        self.unsaid(desk, NoWay, "grow")
        self.assertEqual(desk.say("back"), "ok")
        self.answers(desk, web="2 0-1", pairing="none")

    def test_a_desk_told_a_hundred_deeds_is_led_back(self):
        lots = random.Random(10)
        desk = desk_behind("web 6 0-1 1-2 2-3 3-4 4-5")
        seen = [NEW, told_of(desk)]
        while len(seen) <= 100:
            line = lots.choice(OF_TWO + ["fill", "clear", "grow"])
            if line in OF_TWO:
                line = f"{line} {lots.randrange(6)} {lots.randrange(6)}"
            try:
                desk.say(line)
            except ValueError:
                continue
            seen.append(told_of(desk))
        for ahead in seen[-2::-1]:
            self.assertEqual(desk.say("back"), "ok")
            self.assertEqual(told_of(desk), ahead)
        self.unsaid(desk, NoDeed, "back")


class Questions(Desks):
    def test_written_out(self):
        desk = desk_behind("web 7 0-2 0-5 1-4 2-5 3-5", "pair 0 5")
        self.answers(
            desk, web="7 0-2 0-5 1-4 2-5 3-5", pairing="0-5", loose="1 2 3 4 6", most="3", full="2", whole="no",
            way="1 4", paper="none", bar="none", counts="1 5 5 1", parts="6 ; none ; 0 1 2 3 4 5", sides="no",
            cover="no",
        )
        desk = desk_behind("web " + shown(TWO_STARS), "pair 0 1")
        self.answers(
            desk, pairing="0-1", loose="2 3 4 5 6 7", most="2", full="1", whole="no", way="2 0 1 5", paper="0 1",
            bar="0", counts="1 7 9", parts="2 3 4 5 6 7 ; 0 1 ; none", sides="0 5 6 7 ; 1 2 3 4",
            cover="0-2,0-3,0-4,1-5,1-6,1-7",
        )
        desk = desk_behind("web " + shown(full(8)), "fill")
        self.answers(
            desk, pairing="0-1,2-3,4-5,6-7", loose="none", most="4", full="4", whole="yes", way="none", paper="none",
            bar="no", counts="1 28 210 420 105", parts="none ; none ; 0 1 2 3 4 5 6 7", sides="no",
            cover="0-1,2-3,4-5,6-7",
        )
        self.answers(desk_behind("web " + shown(ring(8)), "grow"), way="2 1 0 7", full="3", sides="0 2 4 6 ; 1 3 5 7")
        self.answers(desk_behind("web 8"), sides="0 1 2 3 4 5 6 7 ; none", cover="no", counts="1", bar="none")

    def test_they_change_nothing_and_are_not_undone(self):
        desk = desk_behind("web 4 0-1 1-2 2-3", "pair 1 2")
        ahead = told_of(desk)
        for question in QUESTIONS:
            desk.say(question)
            self.assertEqual(told_of(desk), ahead)
        self.assertEqual(desk.say("back"), "ok")
        self.answers(desk, web="4 0-1 1-2 2-3", pairing="none")
        told_of(desk)
        self.assertEqual(desk.say("back"), "ok")
        self.assertEqual(told_of(desk), NEW)

    def test_answers_are_texts(self):
        for desk in [Desk(), desk_behind("web " + shown(MIXED), "fill"), desk_behind("web 2 0-1", "grow")]:
            for line in QUESTIONS + ["fill", "back"]:
                self.assertIs(desk.say(line).__class__, str)


class NoLines(Desks):
    def test_whatever_is_no_line_of_a_new_desk_and_behind_deeds(self):
        for desk in [Desk(), desk_behind("web 4 0-1 2-3", "pair 0 1")]:
            for line in NO_LINES:
                self.unsaid(desk, NoLine, line)

    def test_what_is_no_text(self):
        desk = desk_behind("web 4 0-1 2-3", "pair 0 1")
        for thing in NOTHINGS + [0, (), ("web",), ["web"], {"web": "web"}, ["tie", "0", "1"], ("tie 0 1",), b"web",
                                 [["web"]], (4, ((0, 1),))]:
            self.unsaid(desk, NoLine, thing)
        self.assertEqual(desk.say("back"), "ok")
        self.answers(desk, web="4 0-1 2-3", pairing="none")

    def test_it_is_looked_at_ahead_of_all_else(self):
        for line in ["tie 9 x", "tie x 9", "cut 9 9 9", "pair 9", "part 0 0 ", "grow ", "back  ", "tie 0 0 0"]:
            self.unsaid(Desk(), NoLine, line)

    def test_every_word_with_words_behind_it(self):
        for word in QUESTIONS[1:] + OF_ONE + OF_TWO + ["", "x"]:
            for behind in [" ", " 0", " 0 ", "  0 1", " 0 1 ", " 0 1 0", " 0 x", " x 0", " 00 1", " 0\n1", "\n", "  "]:
                self.unsaid(Desk(), NoLine, word + behind)
        for word in QUESTIONS + OF_ONE:
            for line in [word + "\n0 1", word.upper(), word.title(), " " + word, word + "."]:
                self.unsaid(Desk(), NoLine, line)
        for word in OF_TWO:
            self.unsaid(Desk(), NoLine, word)

    def test_a_single_figure_and_nothing_else(self):
        desk = desk_behind("web 2")
        for sign in (chr(code) for code in range(10, 127) if code in (10, *range(32, 127))):
            for line in [f"tie {sign} 1", f"tie 0 {sign}"]:
                refusal = NoPlace if sign in "23456789" else NoLine
                if sign not in "01":
                    self.unsaid(desk, refusal, line)


class ManyLines(Desks):
    def test_two_desks_do_not_hang_on_one_another(self):
        one, other = Desk(), Desk()
        one.say("web 3 0-1 1-2")
        self.assertEqual(told_of(other), NEW)
        other.say("web 2 0-1")
        other.say("grow")
        self.answers(one, web="3 0-1 1-2", pairing="none")
        one.say("pair 1 2")
        self.answers(other, web="2 0-1", pairing="0-1")
        one.say("back")
        one.say("back")
        self.unsaid(one, NoDeed, "back")
        self.assertEqual(told_of(one), NEW)
        self.answers(other, web="2 0-1", pairing="0-1")

    def said(self, desk, line):
        """What a desk answers, or the class with which it refuses."""
        try:
            return desk.say(line)
        except ValueError as error:
            return error.__class__

    def test_lots_of_lines_against_a_desk_by_other_means(self):
        lots = random.Random(7)
        webs = ["1", "2 0-1", "4 0-1 1-2 2-3", "5 0-1 0-2 1-2 2-3 3-4", "5", "4 0-1 0-2 0-3", "3 1-0", "", "5 0-2 1-2"]
        for _ in range(60):
            desk, plain = Desk(), Plain()
            for _ in range(25):
                line = lots.choice(QUESTIONS + OF_TWO * 4 + OF_ONE * 3 + ["web "])
                if line == "web ":
                    line = line + lots.choice(webs)
                elif line in OF_TWO:
                    line = f"{line} {lots.choice('001234')} {lots.choice('01234')}"
                self.assertEqual(self.said(desk, line), self.said(plain, line), (plain.deeds, line))
            self.assertEqual(told_of(desk), told_of(plain), plain.deeds)

    def test_what_is_answered_hangs_on_the_deeds_that_stand(self):
        lots = random.Random(8)
        for _ in range(40):
            desk, stand = desk_behind("web 6 0-1 1-2 2-3 3-4 4-5"), ["web 6 0-1 1-2 2-3 3-4 4-5"]
            for _ in range(30):
                line = lots.choice(OF_TWO + OF_ONE)
                if line in OF_TWO:
                    line = f"{line} {lots.randrange(7)} {lots.randrange(6)}"
                if self.said(desk, line) == "ok":
                    stand = stand[:-1] if line == "back" else stand + [line]
            self.assertEqual(told_of(desk), told_of(desk_behind(*stand)))


if __name__ == "__main__":
    unittest.main()
