"""Tie webs: the ties of a web taken for places."""

from tiewebs.errors import TooGreat
from tiewebs.webs import degrees, need_place, need_web, pairs_of

MOST_TIES = 7


def ties_meet(one, other):
    """Whether two ties have a place in common."""
    return any([place in other for place in one])


def need_few_ties(web):
    """Refuse what is no web, then a web of too many ties."""
    need_web(web)
    if len(web[1]) > MOST_TIES:
        raise TooGreat(len(web[1]), MOST_TIES)


def tie_web(web):
    """The web with a place for each tie, two of them tied where the ties meet."""
    need_few_ties(web)
    ties = web[1]
    many = len(ties)
    return (many, tuple([(low, high) for low, high in pairs_of(many) if ties_meet(ties[low], ties[high])]))


def star_of(web, place):
    """The rising tuple of the numbers of the ties that a place has."""
    need_place(web, place)
    return tuple([number for number, tie in enumerate(web[1]) if place in tie])


def ties_ahead(web):
    """How many ties the tie web would have, however many ties the web has."""
    # Two ties have one place in common at most, so none of these pairs is counted at two places.
    return sum([many * (many - 1) // 2 for many in degrees(web)])
