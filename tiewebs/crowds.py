"""Crowds: places of a web, each two of them tied."""

from tiewebs.webs import are_tied, is_places, need_few_places

MOST_CROWDED = 7
LEAST_CROWD = 2


def need_crowded(web):
    """Refuse a thing of which no crowds, sharings and roots are told."""
    need_few_places(web, MOST_CROWDED)


def joins(web, some, place):
    """Whether a place is tied to each of some places."""
    return all([are_tied(web, other, place) for other in some])


def crowd_holds(web, thing):
    """Whether thing, which may be anything, is a crowd of what is known to be a web."""
    if not is_places(web[0], thing) or len(thing) < LEAST_CROWD:
        return False
    return all([joins(web, thing[:at], place) for at, place in enumerate(thing)])


def is_crowd(web, thing):
    """Whether thing, which may be anything, is a crowd of a web."""
    need_crowded(web)
    return crowd_holds(web, thing)


def crowds_from(web, start):
    """The rising list of the crowds with this start, which has one place or more, each two of them tied."""
    # A start goes ahead of all that is longer, so the crowds rise as they are found.
    found = [start] if len(start) >= LEAST_CROWD else []
    for place in range(start[-1] + 1, web[0]):
        if joins(web, start, place):
            found.extend(crowds_from(web, start + (place,)))
    return found


def all_crowds(web):
    """The rising list of all crowds of a web."""
    need_crowded(web)
    return [crowd for place in range(web[0]) for crowd in crowds_from(web, (place,))]
