"""A desk: a web that is changed and asked about by lines."""

from tiewebs.again import fate, sizes_ahead
from tiewebs.errors import NoDeed, NoLine, NoPlace, NoTie
from tiewebs.sharings import all_sharings, is_tie_web
from tiewebs.texts import read_number, web_text
from tiewebs.ties import tie_web
from tiewebs.webs import MOST_PLACES, is_place

# How many numbers stand behind the first word of each line.
NUMBERS_BEHIND = {"places": 1, "tie": 2, "make": 0, "back": 0, "web": 0, "root": 0, "shared": 0, "ahead": 0, "fate": 0}
QUESTIONS = ("web", "root", "shared", "ahead", "fate")


def is_line(word, numbers):
    """Whether a first word and numbers behind it, None for what is no number, make a line."""
    if word not in NUMBERS_BEHIND or len(numbers) != NUMBERS_BEHIND[word]:
        return False
    if any([number is None for number in numbers]):
        return False
    return word != "places" or numbers[0] <= MOST_PLACES


def read_line(line):
    """The first word of a line and the list of the numbers behind it."""
    if not isinstance(line, str):
        raise NoLine("this is no text")
    word, *others = line.split(" ")
    numbers = [read_number(other) for other in others]
    if not is_line(word, numbers):
        raise NoLine("this is no line that a desk is told")
    return (word, numbers)


def tied_or_not(web, one, other):
    """The web with two places tied where they were not, and not tied where they were."""
    many, ties = web
    if not is_place(many, one) or not is_place(many, other):
        raise NoPlace("this is no place of the web")
    if one == other:
        raise NoTie("a place is not tied to itself")
    changed = (min(one, other), max(one, other))
    if changed in ties:
        return (many, tuple([tie for tie in ties if tie != changed]))
    return (many, tuple(sorted(ties + (changed,))))


def made_by(web, word, numbers):
    """The web that a deed makes of a web."""
    if word == "places":
        return (numbers[0], ())
    if word == "tie":
        return tied_or_not(web, numbers[0], numbers[1])
    return tie_web(web)


def words_of(things):
    """Things as words, with one blank between two."""
    return " ".join([str(thing) for thing in things])


def shared_text(web):
    """The first sharing of a web as a text."""
    sharings = all_sharings(web)
    if not sharings:
        return "no"
    if not sharings[0]:
        return "none"
    return " + ".join([words_of(crowd) for crowd in sharings[0]])


def answer_to(web, word):
    """What is told of a web when it is asked about."""
    if word == "web":
        return web_text(web)
    if word == "root":
        return "yes" if is_tie_web(web) else "no"
    if word == "shared":
        return shared_text(web)
    if word == "ahead":
        return words_of(sizes_ahead(web))
    return words_of(fate(web))


class Desk:
    """A web, and what it was ahead of each deed that stands."""

    def __init__(self):
        self.web = (0, ())
        self.earlier = []

    def say(self, line):
        """Do the deed, or answer the question, of a line."""
        word, numbers = read_line(line)
        if word in QUESTIONS:
            return answer_to(self.web, word)
        if word == "back":
            self.go_back()
        else:
            self.do(word, numbers)
        return "ok"

    def do(self, word, numbers):
        """Do a deed that may be undone."""
        # A deed that is refused is no deed that stands, so it is looked at ahead of all changes.
        made = made_by(self.web, word, numbers)
        self.earlier.append(self.web)
        self.web = made

    def go_back(self):
        """Undo the last deed that stands."""
        if not self.earlier:
            raise NoDeed("no deed stands that could be undone")
        self.web = self.earlier.pop()
