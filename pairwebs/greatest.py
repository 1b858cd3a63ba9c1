"""Pairings that are greatest, full or whole."""

from pairwebs.pairings import all_pairings, loose, loose_of, must_be_pairing


def greatest(web):
    """Tell the rising list of the pairings that have as many ties as any has."""
    found = all_pairings(web)
    many = max([len(pairing) for pairing in found])
    return [pairing for pairing in found if len(pairing) == many]


def first_greatest(web):
    """Tell the first one of the greatest pairings."""
    return greatest(web)[0]


def most(web):
    """Tell how many ties the greatest pairings have."""
    return len(first_greatest(web))


def fitting(web, pairing):
    """Tell the rising list of the ties that can be put to a pairing."""
    free = loose_of(web, pairing)
    return [(low, high) for low, high in web[1] if low in free and high in free]


def is_full(web, pairing):
    """Tell whether no tie can be put to a pairing."""
    must_be_pairing(web, pairing)
    return not fitting(web, pairing)


def filled(web, pairing):
    """Tell what comes of a pairing where the first tie that fits is put to it, again and again."""
    must_be_pairing(web, pairing)
    fit = fitting(web, pairing)
    while fit:
        pairing = tuple(sorted(pairing + (fit[0],)))
        fit = fitting(web, pairing)
    return pairing


def fewest_full(web):
    """Tell how many ties a full pairing has at least."""
    return min([len(pairing) for pairing in all_pairings(web) if not fitting(web, pairing)])


def is_whole(web, pairing):
    """Tell whether no place is loose."""
    return not loose(web, pairing)


def has_whole(web):
    """Tell whether some pairing of a web is whole."""
    return is_whole(web, first_greatest(web))
