"""Webs, pairings and places written as texts, and read from these."""

from pairwebs.errors import NoText
from pairwebs.pairings import is_pairing, must_be_pairing
from pairwebs.webs import is_web, must_be_web

FIGURES = "0123456789"
NONE = "none"


def shown_tie(tie):
    """Tell the text of a tie."""
    low, high = tie
    return f"{low}-{high}"


def shown_ties(ties):
    """Tell the text of some ties, as a pairing is written."""
    return ",".join([shown_tie(tie) for tie in ties]) if ties else NONE


def shown_places(places):
    """Tell the text of some places."""
    return " ".join([str(place) for place in places]) if places else NONE


def shown(web):
    """Tell the text of a web."""
    must_be_web(web)
    many, ties = web
    return " ".join([str(many)] + [shown_tie(tie) for tie in ties])


def shown_pairing(web, pairing):
    """Tell the text of a pairing of a web."""
    must_be_pairing(web, pairing)
    return shown_ties(pairing)


def figure(word):
    """Tell the number that a single figure writes, None where a word is no single figure."""
    return FIGURES.index(word) if len(word) == 1 and word in FIGURES else None


def read_tie(word):
    """Tell the two figures of a word that writes a tie; whether they are a tie is not looked at, nor any other word."""
    if len(word) != 3 or word[1] != "-":
        return None
    return (figure(word[0]), figure(word[2]))


def must_be_text(thing):
    """Refuse what is no text."""
    if not isinstance(thing, str):
        raise NoText("this is no text")


def read(text):
    """Tell the web that a text writes."""
    must_be_text(text)
    words = text.split(" ")
    web = (figure(words[0]), tuple([read_tie(word) for word in words[1:]]))
    if not is_web(web):
        raise NoText("this text writes no web")
    return web


def read_pairing(web, text):
    """Tell the pairing of a web that a text writes."""
    must_be_web(web)
    must_be_text(text)
    words = [] if text == NONE else text.split(",")
    pairing = tuple([read_tie(word) for word in words])
    if not is_pairing(web, pairing):
        raise NoText("this text writes no pairing of the web")
    return pairing
