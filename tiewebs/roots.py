"""Root papers: webs that a web is the tie web of, with names that show it."""

from tiewebs.crowds import LEAST_CROWD, need_crowded
from tiewebs.errors import NoRoot
from tiewebs.sharings import all_sharings, root_by
from tiewebs.ties import ties_meet
from tiewebs.webs import are_tied, is_pair, is_tie, is_web, pairs_of


def are_names(root, many, thing):
    """Whether thing, which may be anything, is a tuple of so many ties with each of root's ties once."""
    if not isinstance(thing, tuple) or len(thing) != many:
        return False
    # Truths are equal to numbers, so each name is looked at by itself before they are compared.
    return all([is_tie(root[0], name) for name in thing]) and tuple(sorted(thing)) == root[1]


def root_holds(web, thing):
    """Whether thing, which may be anything, is a root paper of a web."""
    need_crowded(web)
    if not is_pair(thing):
        return False
    many = web[0]
    root, names = thing
    if not is_web(root) or not are_names(root, many, names):
        return False
    return all([are_tied(web, low, high) == ties_meet(names[low], names[high]) for low, high in pairs_of(many)])


def some_root(web):
    """Some root paper of a web, or None."""
    sharings = all_sharings(web)
    if not sharings:
        return None
    return root_by(web, sharings[0])


def shared_by(web, paper):
    """The sharing that a root paper of a web has."""
    if not root_holds(web, paper):
        raise NoRoot("this is no root paper of the web")
    root, names = paper
    holders = [tuple([place for place, name in enumerate(names) if at in name]) for at in range(root[0])]
    return sorted([holder for holder in holders if len(holder) >= LEAST_CROWD])
