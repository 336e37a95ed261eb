"""What bars a tie web: places such that the web within them is none, claws, and pairs of odd threes."""

from tiewebs.crowds import joins
from tiewebs.sharings import is_tie_web
from tiewebs.webs import are_tied, choices, is_places, near, need_few_places, need_web, within

MOST_BARRED = 7
PLACES_OF_A_THREE = 3


def parts_of(many):
    """All rising tuples of some of so many places, those of fewer ahead, then as tuples compare."""
    return [some for size in range(many + 1) for some in choices(list(range(many)), size)]


def bar_holds(web, some):
    """Whether some places, known to be a rising tuple of those of the web, are a bar."""
    if is_tie_web(within(web, some)):
        return False
    return all([is_tie_web(within(web, some[:at] + some[at + 1:])) for at in range(len(some))])


def is_bar(web, thing):
    """Whether thing, which may be anything, is a bar of a web."""
    need_few_places(web, MOST_BARRED)
    return is_places(web[0], thing) and bar_holds(web, thing)


def all_bars(web):
    """The rising list of all bars of a web."""
    need_few_places(web, MOST_BARRED)
    return sorted([some for some in parts_of(web[0]) if bar_holds(web, some)])


def least_bar(web):
    """The bar of the fewest places, of these the first one, or None."""
    need_few_places(web, MOST_BARRED)
    for some in parts_of(web[0]):
        if bar_holds(web, some):
            return some
    return None


def are_loose(web, some):
    """Whether no two of some places are tied."""
    return not any([are_tied(web, low, high) for low, high in choices(some, 2)])


def claws(web):
    """The rising list of all claws: a place, and three tied to it, no two of which are tied."""
    need_web(web)
    return [(place,) + some for place in range(web[0]) for some in choices(near(web, place), 3) if are_loose(web, some)]


def threes(web):
    """The rising list of all threes: three places, each two of them tied."""
    return [tie + (place,) for tie in web[1] for place in range(tie[1] + 1, web[0]) if joins(web, tie, place)]


def makes_odd(web, three, place):
    """Whether a place makes a three odd: it is another one, tied to just one of the three or to all."""
    if place in three:
        return False
    many = len([other for other in three if are_tied(web, other, place)])
    return many in (1, PLACES_OF_A_THREE)


def odd_threes(web):
    """The rising list of all odd threes of a web."""
    need_web(web)
    return [three for three in threes(web) if any([makes_odd(web, three, place) for place in range(web[0])])]


def is_odd_pair(web, one, other):
    """Whether two odd threes have two places in common, and their two other places are not tied."""
    of_one = [place for place in one if place not in other]
    of_other = [place for place in other if place not in one]
    return len(of_one) == 1 and not are_tied(web, of_one[0], of_other[0])


def odd_pair(web):
    """The first odd pair, as tuples compare, or None."""
    # The odd threes rise, so in each choice the one is less than the other, and the choices rise too.
    for one, other in choices(odd_threes(web), 2):
        if is_odd_pair(web, one, other):
            return (one, other)
    return None


def what_bars(web):
    """What bars a web: its first claw, else its first odd pair, else None."""
    found = claws(web)
    if found:
        return ("claw", found[0])
    pair = odd_pair(web)
    if pair is not None:
        return ("threes", pair)
    return None
