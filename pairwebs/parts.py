"""What the greatest pairings of a web have in common: its parts, and the kinds of its ties."""

from pairwebs.greatest import greatest
from pairwebs.pairings import loose_of, mate_of, must_be_pairing
from pairwebs.webs import are_unlike, have_tie, must_be_one_at_least, must_be_web, pieces_without


def parts(web):
    """Tell the places that a greatest pairing leaves loose, the others that have a tie with these, and the rest."""
    free = [place for pairing in greatest(web) for place in loose_of(web, pairing)]
    missed = tuple(sorted(set(free)))
    others = [place for place in range(web[0]) if place not in missed]
    beside = tuple([place for place in others if any([have_tie(web, place, other) for other in missed])])
    return (missed, beside, tuple([place for place in others if place not in beside]))


def is_short(web):
    """Tell whether, for each place, what is left without it has a whole pairing."""
    lefts = [loose_of(web, pairing) for pairing in greatest(web)]
    return all([(place,) in lefts for place in range(web[0])])


def within(web, some):
    """Tell the web of some and of the ties between two of them, numbered anew in their order."""
    must_be_web(web)
    must_be_one_at_least(web, some)
    ties = [(some.index(low), some.index(high)) for low, high in web[1] if low in some and high in some]
    return (len(some), tuple(ties))


def missed_pieces(web):
    """Tell the rising list of the pieces of what greatest pairings leave loose."""
    missed, beside, rest = parts(web)
    return pieces_without(web, tuple(sorted(beside + rest)))


def is_parted(web, pairing):
    """Tell whether a pairing is well parted."""
    must_be_pairing(web, pairing)
    missed, beside, rest = parts(web)
    homes = missed_pieces(web)
    if not all([mate_of(pairing, place) in rest for place in rest]):
        return False
    mates = [mate_of(pairing, place) for place in beside]
    if not all([place in missed for place in mates]):
        return False
    if not are_unlike([piece for piece in homes for place in mates if place in piece]):
        return False
    inside = [len([place for place in piece if mate_of(pairing, place) in piece]) for piece in homes]
    return inside == [len(piece) - 1 for piece in homes]


def tie_kinds(web):
    """Tell the ties that are in each greatest pairing, those in some but not in each, and those in none."""
    best = greatest(web)
    always, sometimes, never = [], [], []
    for tie in web[1]:
        many = len([pairing for pairing in best if tie in pairing])
        if many == len(best):
            always.append(tie)
        elif many > 0:
            sometimes.append(tie)
        else:
            never.append(tie)
    return (tuple(always), tuple(sometimes), tuple(never))
