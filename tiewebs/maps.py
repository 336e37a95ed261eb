"""Maps of a web to another one."""

from tiewebs.webs import are_tied, degrees, is_place, need_few_places, need_web

MOST_MAPPED = 7


def need_mapped(one, other):
    """Refuse two things of which no maps are told."""
    # A second one that is no web is refused ahead of a first one that is too great.
    need_web(one)
    need_web(other)
    need_few_places(one, MOST_MAPPED)
    need_few_places(other, MOST_MAPPED)


def goes_on(one, other, start, place):
    """Whether a place of the other web may stand next in a map with this start."""
    at = len(start)
    if place in start:
        return False
    return all([are_tied(one, ahead, at) == are_tied(other, start[ahead], place) for ahead in range(at)])


def ties_reached(web, places):
    """For each tie of a web, in order, the tie that it becomes where places stand in the stead of the web's own."""
    return [tuple(sorted([places[low], places[high]])) for low, high in web[1]]


def map_holds(one, other, thing):
    """Whether thing, which may be anything, is a map of the one web to the other."""
    need_mapped(one, other)
    many = one[0]
    if other[0] != many or not isinstance(thing, tuple) or len(thing) != many:
        return False
    if not all([is_place(many, place) for place in thing]):
        return False
    return all([goes_on(one, other, thing[:at], place) for at, place in enumerate(thing)])


def first_map_from(one, other, start):
    """The first map with this start, as tuples compare, or None."""
    many = one[0]
    if len(start) == many:
        return start
    for place in range(many):
        if goes_on(one, other, start, place):
            found = first_map_from(one, other, start + (place,))
            if found is not None:
                return found
    return None


def map_to(one, other):
    """The first map of the one web to the other, as tuples compare, or None."""
    need_mapped(one, other)
    # A map keeps how many are tied to each place; most webs that are not alike differ in this.
    if sorted(degrees(one)) != sorted(degrees(other)):
        return None
    return first_map_from(one, other, ())


def are_alike(one, other):
    """Whether there is a map of the one web to the other."""
    return map_to(one, other) is not None
