"""A desk that keeps a web and a pairing of it, does deeds, and answers questions."""

from pairwebs.counts import by_ties
from pairwebs.covers import first_cover
from pairwebs.errors import NoDeed, NoLine, NoTie
from pairwebs.greatest import fewest_full, filled, has_whole, most
from pairwebs.pairings import loose, loose_of
from pairwebs.papers import bar, paper_for
from pairwebs.parts import parts
from pairwebs.sides import sides
from pairwebs.texts import figure, read, shown, shown_pairing, shown_places, shown_ties
from pairwebs.ways import first_way, greater
from pairwebs.webs import have_tie, must_be_place, must_have_tie, tie_of

WEB_DEED = "web "
OK = "ok"
NO = "no"


def must_be_two(web, one, other):
    """Refuse what are no places of a web, then one place twice."""
    must_be_place(web, one)
    must_be_place(web, other)
    if one == other:
        raise NoTie("one place by itself has no tie")


def with_one(ties, tie):
    """Tell the rising tuple of some ties and one more."""
    return tuple(sorted(ties + (tie,)))


def without_one(ties, tie):
    """Tell the rising tuple of some ties but one."""
    return tuple([other for other in ties if other != tie])


def do_tie(web, pairing, one, other):
    """Tell the web with one more tie, and its pairing."""
    must_be_two(web, one, other)
    if have_tie(web, one, other):
        raise NoDeed("these two places have a tie")
    return ((web[0], with_one(web[1], tie_of(one, other))), pairing)


def do_cut(web, pairing, one, other):
    """Tell the web without a tie, and its pairing without it, too."""
    must_be_two(web, one, other)
    if not have_tie(web, one, other):
        raise NoDeed("these two places have no tie")
    tie = tie_of(one, other)
    return ((web[0], without_one(web[1], tie)), without_one(pairing, tie))


def do_pair(web, pairing, one, other):
    """Tell the web, and its pairing with one more tie."""
    must_have_tie(web, one, other)
    free = loose_of(web, pairing)
    if one not in free or other not in free:
        raise NoDeed("one of these two places is not loose")
    return (web, with_one(pairing, tie_of(one, other)))


def do_part(web, pairing, one, other):
    """Tell the web, and its pairing without a tie."""
    must_have_tie(web, one, other)
    tie = tie_of(one, other)
    if tie not in pairing:
        raise NoDeed("these two places are not paired")
    return (web, without_one(pairing, tie))


def do_grow(web, pairing):
    """Tell the web, and its pairing made greater by its first way."""
    # Where there is none, that is refused as any other thing that is no way.
    return (web, greater(web, pairing, first_way(web, pairing)))


def do_fill(web, pairing):
    """Tell the web, and its pairing filled."""
    return (web, filled(web, pairing))


def do_clear(web, pairing):
    """Tell the web, and the pairing of no ties."""
    return (web, ())


def tell_web(web, pairing):
    """Tell the text of the web."""
    return shown(web)


def tell_pairing(web, pairing):
    """Tell the text of the pairing."""
    return shown_pairing(web, pairing)


def tell_loose(web, pairing):
    """Tell the text of the loose places."""
    return shown_places(loose(web, pairing))


def tell_most(web, pairing):
    """Tell the text of how many ties the greatest pairings have."""
    return str(most(web))


def tell_full(web, pairing):
    """Tell the text of how many ties a full pairing has at least."""
    return str(fewest_full(web))


def tell_whole(web, pairing):
    """Tell the text of whether some pairing is whole."""
    return "yes" if has_whole(web) else NO


def tell_way(web, pairing):
    """Tell the text of the first way for the pairing."""
    way = first_way(web, pairing)
    return shown_places(() if way is None else way)


def tell_paper(web, pairing):
    """Tell the text of the first paper."""
    return shown_places(paper_for(web))


def tell_bar(web, pairing):
    """Tell the text of the places that bar a whole pairing."""
    some = bar(web)
    return NO if some is None else shown_places(some)


def tell_counts(web, pairing):
    """Tell the text of how many pairings there are by their ties."""
    return " ".join([str(many) for many in by_ties(web)])


def between(groups):
    """Tell the text of several tuples of places."""
    return " ; ".join([shown_places(places) for places in groups])


def tell_parts(web, pairing):
    """Tell the text of the three parts of the web."""
    return between(parts(web))


def tell_sides(web, pairing):
    """Tell the text of the two sides of the web."""
    both = sides(web)
    return NO if both is None else between(both)


def tell_cover(web, pairing):
    """Tell the text of the first cover."""
    cover = first_cover(web)
    return NO if cover is None else shown_ties(cover)


DEEDS = {"grow": do_grow, "fill": do_fill, "clear": do_clear}
DEEDS_OF_TWO = {"tie": do_tie, "cut": do_cut, "pair": do_pair, "part": do_part}
QUESTIONS = {
    "web": tell_web, "pairing": tell_pairing, "loose": tell_loose, "most": tell_most, "full": tell_full,
    "whole": tell_whole, "way": tell_way, "paper": tell_paper, "bar": tell_bar, "counts": tell_counts,
    "parts": tell_parts, "sides": tell_sides, "cover": tell_cover,
}


class Desk:
    """A desk: it keeps a web and a pairing, and what both were ahead of each deed that stands."""

    def __init__(self):
        self.web = (1, ())
        self.pairing = ()
        self.past = []

    def say(self, line):
        """Tell the answer to a line."""
        if not isinstance(line, str):
            raise NoLine("a line is a text")
        if line.startswith(WEB_DEED):
            return self.keep((read(line[len(WEB_DEED):]), ()))
        words = line.split(" ")
        if len(words) == 1:
            return self.say_word(line)
        places = [figure(word) for word in words[1:]]
        if words[0] not in DEEDS_OF_TWO or len(places) != 2 or None in places:
            raise NoLine("this is no line")
        deed = DEEDS_OF_TWO[words[0]]
        return self.keep(deed(self.web, self.pairing, places[0], places[1]))

    def say_word(self, word):
        """Tell the answer to a line of one word."""
        if word == "back":
            return self.undo()
        if word in QUESTIONS:
            question = QUESTIONS[word]
            return question(self.web, self.pairing)
        if word not in DEEDS:
            raise NoLine("this is no line")
        deed = DEEDS[word]
        return self.keep(deed(self.web, self.pairing))

    def keep(self, changed):
        """Keep another web and pairing, as a deed that stands."""
        self.past.append((self.web, self.pairing))
        self.web, self.pairing = changed
        return OK

    def undo(self):
        """Undo the last deed that stands."""
        if not self.past:
            raise NoDeed("no deed stands")
        self.web, self.pairing = self.past.pop()
        return OK
