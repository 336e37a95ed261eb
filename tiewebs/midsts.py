"""Ties put in: webs with places for ties or for their ends, and the ties that a web lacks to be a tie web."""

from tiewebs.errors import TooGreat
from tiewebs.sharings import is_tie_web
from tiewebs.ties import need_few_ties, ties_meet
from tiewebs.webs import MOST_PLACES, choices, need_few_places, need_web, pairs_of

MOST_PUT_IN = 5


def need_room(web):
    """Refuse what is no web, then a web that has too many places together with its ties."""
    need_web(web)
    many = web[0] + len(web[1])
    if many > MOST_PLACES:
        raise TooGreat(many, MOST_PLACES)


def ties_to_midsts(web):
    """The ties between each place and those places, behind all others, that stand for its ties."""
    many, ties = web
    return [(place, many + number) for number, tie in enumerate(ties) for place in tie]


def ties_of_midsts(web):
    """The ties between the places that stand for two ties that meet."""
    many, ties = web
    pairs = pairs_of(len(ties))
    return [(many + low, many + high) for low, high in pairs if ties_meet(ties[low], ties[high])]


def midst_web(web):
    """The web with a place in the midst of each tie, in its stead."""
    need_room(web)
    return (web[0] + len(web[1]), tuple(sorted(ties_to_midsts(web))))


def whole_web(web):
    """The web with a place for each tie, too, tied wherever places and ties touch one another."""
    need_room(web)
    ties = list(web[1]) + ties_to_midsts(web) + ties_of_midsts(web)
    return (web[0] + len(web[1]), tuple(sorted(ties)))


def ends_touch(one, other):
    """Whether two ends, each a tuple of its tie's number and its place, are of one tie or at one place."""
    return one[0] == other[0] or one[1] == other[1]


def end_web(web):
    """The web with a place for each end of each tie, tied to the other end and to all ends at the same place."""
    need_few_ties(web)
    ends = [(number, place) for number, tie in enumerate(web[1]) for place in tie]
    many = len(ends)
    return (many, tuple([(low, high) for low, high in pairs_of(many) if ends_touch(ends[low], ends[high])]))


def with_ties(web, more):
    """The web with more ties."""
    return (web[0], tuple(sorted(web[1] + more)))


def enough_ties(web, size):
    """The rising list of the choices of so many ties that make a tie web of a web when they are put in."""
    free = [pair for pair in pairs_of(web[0]) if pair not in web[1]]
    return [more for more in choices(free, size) if is_tie_web(with_ties(web, more))]


def put_in(web):
    """The fewest ties, of several the first ones, that make a tie web of a web when they are put in."""
    need_few_places(web, MOST_PUT_IN)
    size = 0
    found = enough_ties(web, size)
    # With all ties put in, all places make one crowd, so some size is enough.
    while not found:
        size += 1
        found = enough_ties(web, size)
    return found[0]
