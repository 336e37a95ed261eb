"""Tie webs made again and again: what comes, how great it is, and what becomes of it in the end."""

from tiewebs.ties import tie_web, ties_ahead
from tiewebs.webs import degrees, need_joined, need_number, need_web

MOST_TIMES = 6
DEGREES_OF_THREE_IN_A_STAR = (1, 1, 1, 3)


def made_again(web, times):
    """What comes where so many times the tie web is made."""
    need_web(web)
    need_number(times, MOST_TIMES)
    made = web
    for turn in range(times):
        made = tie_web(made)
    return made


def sizes_ahead(web):
    """How many places and ties a web has, how many ties its tie web, and how many the tie web of that."""
    tied = degrees(web)
    # A tie meets all other ones at both its places, and none of them at both.
    meeting = [tied[low] + tied[high] - 2 for low, high in web[1]]
    return [web[0], len(web[1]), ties_ahead(web), sum([many * (many - 1) // 2 for many in meeting])]


def fate(web):
    """What becomes of a joined web where the tie web is made again and again."""
    need_joined(web)
    many, ties = web
    tied = degrees(web)
    if tuple(sorted(tied)) == DEGREES_OF_THREE_IN_A_STAR:
        return ("stays", 3)
    if any([number > 2 for number in tied]):
        return ("grows",)
    # What is left are rows and rings, and a ring has a tie more than a row of as many places.
    if ties and len(ties) == many:
        return ("stays", many)
    return ("gone", many)
