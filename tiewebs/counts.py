"""All small webs: how many are tie webs, and of what kinds they are."""

from tiewebs.maps import ties_reached
from tiewebs.sharings import is_tie_web
from tiewebs.webs import choices, need_few_places, need_number, pairs_of

MOST_COUNTED = 4
MOST_RENUMBERED = 6


def all_webs(many):
    """The rising list of all webs of so many places."""
    need_number(many, MOST_COUNTED)
    pairs = pairs_of(many)
    return sorted([(many, ties) for size in range(len(pairs) + 1) for ties in choices(pairs, size)])


def tie_webs_many(many):
    """How many of the webs of so many places are tie webs, by how many ties they have."""
    sizes = [len(web[1]) for web in all_webs(many) if is_tie_web(web)]
    return [sizes.count(size) for size in range(len(pairs_of(many)) + 1)]


def orders(things):
    """All orders of a list of things."""
    if not things:
        return [()]
    return [(thing,) + rest for at, thing in enumerate(things) for rest in orders(things[:at] + things[at + 1:])]


def first_alike(web):
    """The first, as tuples compare, of all webs that are alike with a web."""
    need_few_places(web, MOST_RENUMBERED)
    many = web[0]
    return min([(many, tuple(sorted(ties_reached(web, places)))) for places in orders(list(range(many)))])


def kinds_of(many):
    """The rising list of the first ones of all webs of so many places."""
    return sorted({first_alike(web) for web in all_webs(many)})


def kinds_many(many):
    """How many webs of so many places are alike with each of the first ones, in their order."""
    firsts = [first_alike(web) for web in all_webs(many)]
    return [firsts.count(kind) for kind in kinds_of(many)]
