"""The only root: maps of tie webs, the maps of webs that are behind them, and the kinds of roots."""

from tiewebs.errors import NoMap
from tiewebs.maps import are_alike, goes_on, map_holds, need_mapped, ties_reached
from tiewebs.sharings import all_sharings, root_by
from tiewebs.ties import star_of, tie_web
from tiewebs.webs import need_few_places, need_joined

MOST_ROOTED = 6


def need_map(one, other, thing):
    """Refuse two things of which no maps are told, then what is no map of the one to the other."""
    if not map_holds(one, other, thing):
        raise NoMap("this is no map of the one web to the other")


def tie_map(one, other, places):
    """For each tie of the one web, in order, the number of the tie of the other that a map makes of it."""
    need_map(one, other, places)
    return tuple([other[1].index(tie) for tie in ties_reached(one, places)])


def keeps_ties(one, other, ties, at, place):
    """Whether a place of the other web has, for each tie that place at of the one has, the tie that goes with it."""
    return all([place in other[1][ties[number]] for number in star_of(one, at)])


def first_behind(one, other, ties, start):
    """The first map of the webs with this start that has ties for its tie map, or None."""
    if len(start) == one[0]:
        return start
    for place in range(one[0]):
        if goes_on(one, other, start, place) and keeps_ties(one, other, ties, len(start), place):
            found = first_behind(one, other, ties, start + (place,))
            if found is not None:
                return found
    return None


def map_behind(one, other, ties):
    """The first map of the one web to the other that has a map of their tie webs for its tie map, or None."""
    # More places in the second web are refused ahead of more ties in the first.
    need_mapped(one, other)
    need_map(tie_web(one), tie_web(other), ties)
    if one[0] != other[0]:
        return None
    return first_behind(one, other, ties, ())


def root_kinds(web):
    """The roots that the sharings of a joined web make, in order, but for those alike with an earlier one."""
    need_few_places(web, MOST_ROOTED)
    need_joined(web)
    kinds = []
    for sharing in all_sharings(web):
        root = root_by(web, sharing)[0]
        if not any([are_alike(kind, root) for kind in kinds]):
            kinds.append(root)
    return kinds
