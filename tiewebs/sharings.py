"""Sharings: crowds that share the ties of a web, and the root that they make."""

from tiewebs.crowds import crowd_holds, crowds_from, need_crowded
from tiewebs.errors import NoSharing
from tiewebs.webs import is_rising

MOST_AT_A_PLACE = 2


def how_many_have(crowds, some):
    """How many of the crowds have all of some places."""
    return len([crowd for crowd in crowds if all([place in crowd for place in some])])


def are_crowds(web, thing):
    """Whether thing, which may be anything, is a rising list of crowds of a web."""
    # Things of other kinds do not compare, so the order is looked at last.
    return isinstance(thing, list) and all([crowd_holds(web, crowd) for crowd in thing]) and is_rising(thing)


def is_sharing(web, thing):
    """Whether thing, which may be anything, is a sharing of a web."""
    need_crowded(web)
    if not are_crowds(web, thing):
        return False
    many, ties = web
    if not all([how_many_have(thing, tie) == 1 for tie in ties]):
        return False
    return all([how_many_have(thing, (place,)) <= MOST_AT_A_PLACE for place in range(many)])


def goes_with(taken, crowd):
    """Whether a crowd has no tie of those taken, and no place that two of them have."""
    if any([how_many_have(taken, (place,)) == MOST_AT_A_PLACE for place in crowd]):
        return False
    return all([len([place for place in crowd if place in other]) < 2 for other in taken])


def sharings_from(web, taken):
    """The rising list of the sharings that begin with the crowds taken."""
    free = [tie for tie in web[1] if how_many_have(taken, tie) == 0]
    if not free:
        return [taken]
    found = []
    # A crowd that has the first free tie begins with it: a place between or ahead would make an earlier tie, and no
    # such one is free. So the crowds of each sharing rise, and the sharings rise as they are found.
    for crowd in crowds_from(web, free[0]):
        if goes_with(taken, crowd):
            found.extend(sharings_from(web, taken + [crowd]))
    return found


def all_sharings(web):
    """The rising list of all sharings of a web."""
    need_crowded(web)
    return sharings_from(web, [])


def is_tie_web(web):
    """Whether a web is a tie web: whether it has a sharing."""
    return len(all_sharings(web)) > 0


def holders_of(many, sharing):
    """For each place of the root, in order, the tuple of those of so many places whose names have it."""
    alone = [place for place in range(many) if how_many_have(sharing, (place,)) == 1]
    loose = [place for place in range(many) if how_many_have(sharing, (place,)) == 0]
    # A place without crowds has two places of the root, one behind the other.
    return sharing + [(place,) for place in alone + sorted(loose + loose)]


def root_by(web, sharing):
    """The root that a sharing makes, and the tie of it for each place of the web."""
    if not is_sharing(web, sharing):
        raise NoSharing("this is no sharing of the web")
    many = web[0]
    holders = holders_of(many, sharing)
    names = [tuple([at for at, holder in enumerate(holders) if place in holder]) for place in range(many)]
    return ((len(holders), tuple(sorted(names))), tuple(names))
