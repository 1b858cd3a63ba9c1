"""Tests of 10.1, and of 0.2 to 0.5 where they speak of texts."""

import itertools
import re
import unittest

from pairwebs.errors import NoText
from pairwebs.kinds import full, ring, row, star
from pairwebs.texts import read, read_pairing, shown, shown_pairing
from things import MIXED, NOTHINGS, TWO_STARS, WEBS, Asking, all_webs, plain_pairings

SIGNS = "\n" + "".join(chr(code) for code in range(32, 127) if chr(code) != "%")
# No texts at all, of every kind.
NO_TEXTS = [thing for thing in NOTHINGS if not isinstance(thing, str)] + [
    0, 1, 4, 12, (), (1,), (1, ()), ("1",), ["1"], {"1": "1"}, [], ("4 0-1",), ["4", "0-1"], (4, ((0, 1),)), ((0, 1),),
    ("none",), ["none"], {"none": ()}, [(0, 1)],
]


def written_web(text):
    """The web that a text writes, or None, by a pattern."""
    if not re.fullmatch(r"[1-8]( [0-7]-[0-7])*", text):
        return None
    many = int(text[0])
    ties = [(int(tie[0]), int(tie[2])) for tie in text.split()[1:]]
    fine = all(low < high < many for low, high in ties) and ties == sorted(set(ties))
    return (many, tuple(ties)) if fine else None


def written_pairing(web, text):
    """The pairing of a web that a text writes, or None, by all texts of its pairings."""
    texts = {",".join("-".join(map(str, tie)) for tie in pairing) or "none": pairing for pairing in plain_pairings(web)}
    return texts.get(text)


def one_sign_off(text):
    """What comes of a text where a sign is put in, taken out, put in the place of another, or told twice."""
    found = [text[:at] + text[at + 1:] for at in range(len(text))]
    for at in range(len(text) + 1):
        found.extend(text[:at] + sign + text[at:] for sign in SIGNS)
        found.extend(text[:at] + sign + text[at + 1:] for sign in SIGNS)
    return found


class Shown(Asking):
    def test_written_out(self):
        self.told("1", shown, (1, ()))
        self.told("8", shown, (8, ()))
        self.told("4 0-1 0-3", shown, (4, ((0, 1), (0, 3))))
        self.told("3 0-1 0-2 1-2", shown, ring(3))
        self.told("7 0-2 0-5 1-4 2-5 3-5", shown, MIXED)
        self.told("8 0-1 0-2 0-3 0-4 0-5 0-6 0-7", shown, star(8))

    def test_many_webs(self):
        for web in WEBS:
            self.told(" ".join([f"{web[0]}"] + [f"{low}-{high}" for low, high in web[1]]), shown, web)

    def test_pairings_written_out(self):
        self.told("none", shown_pairing, (1, ()), ())
        self.told("none", shown_pairing, full(8), ())
        self.told("0-1", shown_pairing, row(2), ((0, 1),))
        self.told("0-2,1-4,3-5", shown_pairing, MIXED, ((0, 2), (1, 4), (3, 5)))
        self.told("0-7,1-6,2-5,3-4", shown_pairing, full(8), ((0, 7), (1, 6), (2, 5), (3, 4)))

    def test_refusals(self):
        self.no_web(shown, ())
        self.no_web(shown_pairing, ((),), (None,), (((0, 1), (0, 1)),))
        self.no_pairing(shown_pairing, ())


class Read(Asking):
    def test_written_out(self):
        self.told((1, ()), read, "1")
        self.told((8, ()), read, "8")
        self.told((4, ((0, 1), (0, 3))), read, "4 0-1 0-3")
        self.told(MIXED, read, "7 0-2 0-5 1-4 2-5 3-5")

    def test_each_web_is_read_as_it_was_shown(self):
        for web in WEBS + [web for many in range(1, 6) for web in all_webs(many)]:
            self.assertEqual(read(shown(web)), web)
        self.told(full(8), read, shown(full(8)))

    def test_blanks_signs_and_words_that_are_not_due(self):
        for text in [
            "", " ", "  ", "\n", "0", "9", "10", "08", "01", "-1", "+1", "1 ", " 1", "1  ", "1\n", "\n1", "1,", "one",
            "none", "web 1", "4 0-1 0-3 ", " 4 0-1 0-3", "4  0-1 0-3", "4 0-1  0-3", "4 0-1 0-3\n", "4\n0-1 0-3",
            "4 0-1\n0-3", "4 0-1,0-3", "4,0-1,0-3", "4 0-1, 0-3", "4 0 - 1", "4 0- 1", "4 0 -1", "4 01", "4 0", "4 0-",
            "4 -1", "4 -", "4 0-1-", "4 -0-1", "4 0--1", "4 0-1-2", "4 0_1", "4 0+1", "4 0:1", "40-1", "4 0-10-3",
            "0-1", "4 4", "4 none", "4;0-1", "4\t0-1", "(4, ())", "4 (0, 1)", "4 o-1", "4 0-l", "a", "4 a-b", "A 0-1",
        ]:
            self.refused(NoText, read, text)

    def test_ties_that_are_none_or_do_not_rise(self):
        for text in [
            "4 0-3 0-1", "4 0-1 0-1", "4 1-2 0-1", "4 0-1 0-3 0-3", "4 1-0", "4 3-0", "4 0-0", "4 3-3", "4 0-4",
            "4 3-4", "4 4-5", "4 0-8", "4 0-9", "4 9-9", "1 0-1", "1 0-0", "2 0-1 0-1", "2 0-2", "8 0-8", "8 7-8",
            "8 6-7 7-8",
            "4 0-1 0-2 0-3 1-3 1-2", "9 0-1", "0 0-1", "0 0-0", "3 0-1 1-2 2-0",
        ]:
            self.refused(NoText, read, text)

    def test_numbers_of_two_figures_with_signs_or_noughts_ahead(self):
        for text in [
            "04", "4 00-1", "4 0-01", "4 0-03", "4 +0-1", "4 0-+1", "4 -0-3", "+4 0-1", "-4 0-1", "4 0-10", "4 10-11",
            "10 0-1", "12 0-1", "4.0", "4 0-1.0", "4e0", "0x4", "4 0-0x1", "4_", "1_0",
        ]:
            self.refused(NoText, read, text)

    def test_figures_that_are_none_from_0_to_9(self):
        for text in ["\u0664", "\u00b2", "\uff14", "4 0-\u0661", "4 \u0660-1", "4 0-\u00b9", "4 0\u20111",
                     "4\u00a00-1"]:
            self.refused(NoText, read, text)

    def test_no_texts_of_every_kind(self):
        for thing in NO_TEXTS:
            self.refused(NoText, read, thing)

    def test_one_sign_off(self):
        for text in ["1", "8", "2 0-1", "4 0-1 0-3", "3 0-1 0-2 1-2", "7 0-2 0-5 1-4 2-5 3-5"]:
            for other in one_sign_off(text):
                web = written_web(other)
                if web is None:
                    self.assertRaises(NoText, read, other)
                else:
                    self.assertEqual(read(other), web, other)

    def test_all_short_texts_of_a_few_signs(self):
        for size in range(6):
            for signs in itertools.product("0129 -\n", repeat=size):
                text = "".join(signs)
                web = written_web(text)
                if web is None:
                    self.assertRaises(NoText, read, text)
                else:
                    self.assertEqual(read(text), web, text)


class ReadPairing(Asking):
    def test_written_out(self):
        self.told((), read_pairing, (1, ()), "none")
        self.told((), read_pairing, full(8), "none")
        self.told(((0, 1),), read_pairing, row(2), "0-1")
        self.told(((0, 2), (1, 4), (3, 5)), read_pairing, MIXED, "0-2,1-4,3-5")

    def test_each_pairing_is_read_as_it_was_shown(self):
        for web in WEBS:
            for pairing in plain_pairings(web)[::1 if web[0] < 7 else 5]:
                text = shown_pairing(web, pairing)
                self.assertEqual(text, ",".join(f"{low}-{high}" for low, high in pairing) or "none")
                self.assertEqual(read_pairing(web, text), pairing)

    def test_texts_that_write_none(self):
        for text in [
            "", " ", ",", "\n", "None", "NONE", "none ", " none", "none,", ",none", "none,none", "none\n", "no", "()",
            "0-2,none", "none,0-2", "0-2,", ",0-2", "0-2,,1-4", "0-2, 1-4", "0-2 ,1-4", "0-2 1-4", "0-2;1-4", "0-2\n",
            "0-2,1-4\n", "0-2\n1-4", " 0-2", "0-2 ", "02", "0 - 2", "0--2", "00-2", "0-02", "+0-2", "-0-2", "0-2-", "0",
            "0-", "-2", "-", "0-2,1", "7 0-2", "0-22", "0_2", "a-b", "0-\u0662", "\u0660-2", "[0-2]", "0-2,\t1-4",
        ]:
            self.refused(NoText, read_pairing, MIXED, text)

    def test_ties_of_no_pairing(self):
        for text in [
            "0-3", "0-1", "2-0", "4-1", "0-0", "6-6", "0-7", "6-7", "8-9", "0-9", "1-4,0-2", "3-5,1-4,0-2", "0-2,0-2",
            "1-4,1-4", "0-2,0-5", "0-2,2-5", "0-5,3-5", "0-2,1-4,2-5", "0-2,4-1", "0-2,3-4",
        ]:
            self.refused(NoText, read_pairing, MIXED, text)
        for web in [(1, ()), (8, ())]:
            for text in ["0-1", "0-0", "", "1-2"]:
                self.refused(NoText, read_pairing, web, text)

    def test_one_sign_off(self):
        for web, text in [(row(2), "0-1"), (full(4), "none"), (MIXED, "0-2,1-4,3-5"), (TWO_STARS, "0-2,1-5")]:
            for other in one_sign_off(text):
                pairing = written_pairing(web, other)
                if pairing is None:
                    self.assertRaises(NoText, read_pairing, web, other)
                else:
                    self.assertEqual(read_pairing(web, other), pairing, other)

    def test_no_texts_of_every_kind(self):
        for web in [(1, ()), MIXED, full(8)]:
            for thing in NO_TEXTS:
                self.refused(NoText, read_pairing, web, thing)

    def test_no_web_is_refused_ahead_of_no_text(self):
        self.no_web(read_pairing, ("none",), ("0-1",), (None,), ("",), ((),))


if __name__ == "__main__":
    unittest.main()
