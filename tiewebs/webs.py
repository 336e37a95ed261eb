"""Webs: what one is, and what is told of its places."""

from tiewebs.errors import NoNumber, NoPlace, NoPlaces, NotJoined, NoWeb, TooGreat

MOST_PLACES = 14


def is_whole(thing):
    """Whether thing is a whole number: truths are ints to Python, but none here."""
    return isinstance(thing, int) and not isinstance(thing, bool)


def is_pair(thing):
    """Whether thing is a tuple of two."""
    return isinstance(thing, tuple) and len(thing) == 2


def is_place(many, thing):
    """Whether thing is a place of a web of so many places."""
    return is_whole(thing) and 0 <= thing < many


def is_tie(many, thing):
    """Whether thing could be a tie of a web of so many places."""
    if not is_pair(thing):
        return False
    low, high = thing
    return is_place(many, low) and is_place(many, high) and low < high


def is_rising(things):
    """Whether each of a tuple or list, all of one kind, is greater than the one ahead."""
    return all([ahead < behind for ahead, behind in zip(things, things[1:])])


def is_places(many, thing):
    """Whether thing is a rising tuple of places of a web of so many places."""
    # Things of other kinds do not compare, so the order is looked at last.
    return isinstance(thing, tuple) and all([is_place(many, place) for place in thing]) and is_rising(thing)


def is_web(thing):
    """Whether thing, which may be anything, is a web."""
    if not is_pair(thing):
        return False
    many, ties = thing
    if not is_whole(many) or not 0 <= many <= MOST_PLACES or not isinstance(ties, tuple):
        return False
    return all([is_tie(many, tie) for tie in ties]) and is_rising(ties)


def need_web(thing):
    """Refuse what is no web."""
    if not is_web(thing):
        raise NoWeb("this is no web")


def need_place(web, place):
    """Refuse what is no web, then what is no place of it."""
    need_web(web)
    if not is_place(web[0], place):
        raise NoPlace("this is no place of the web")


def need_number(thing, most):
    """Refuse what is no whole number from 0 to so many."""
    if not is_whole(thing) or not 0 <= thing <= most:
        raise NoNumber("this is no whole number that is taken here")


def need_few_places(web, most):
    """Refuse what is no web, then a web of more places than so many."""
    need_web(web)
    if web[0] > most:
        raise TooGreat(web[0], most)


def pairs_of(many):
    """The rising list of all that could be ties of a web of so many places."""
    return [(low, high) for low in range(many) for high in range(low + 1, many)]


def choices(things, size):
    """The rising list of the rising tuples of so many of a rising list of things."""
    if size == 0:
        return [()]
    return [(thing,) + rest for at, thing in enumerate(things) for rest in choices(things[at + 1:], size - 1)]


def are_tied(web, one, other):
    """Whether two places of a web are tied, whichever is the lesser."""
    return (min(one, other), max(one, other)) in web[1]


def near(web, place):
    """The rising list of the places tied to a place."""
    need_place(web, place)
    return [other for other in range(web[0]) if are_tied(web, place, other)]


def degrees(web):
    """How many places are tied to each place, place by place."""
    need_web(web)
    many, ties = web
    return [len([tie for tie in ties if place in tie]) for place in range(many)]


def pieces(web):
    """The rising list of the rising tuples of places that are joined by ties."""
    need_web(web)
    many, ties = web
    # Each place has the least place that is known to be joined with it.
    leasts = list(range(many))
    for low, high in ties:
        kept = min(leasts[low], leasts[high])
        gone = max(leasts[low], leasts[high])
        leasts = [kept if least == gone else least for least in leasts]
    heads = [place for place in range(many) if leasts[place] == place]
    return [tuple([place for place in range(many) if leasts[place] == head]) for head in heads]


def need_joined(web):
    """Refuse what is no web, then a web of more than one piece."""
    if len(pieces(web)) > 1:
        raise NotJoined("the web has more than one piece")


def within(web, some):
    """The web within some places, which are numbered anew in order."""
    need_web(web)
    many, ties = web
    if not is_places(many, some):
        raise NoPlaces("this is no rising tuple of places of the web")
    kept = [(low, high) for low, high in ties if low in some and high in some]
    # The order of the places is kept, so the ties rise as they did.
    return (len(some), tuple([(some.index(low), some.index(high)) for low, high in kept]))
