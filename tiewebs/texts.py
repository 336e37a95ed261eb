"""Webs written as texts, and read again."""

from tiewebs.errors import NoText
from tiewebs.webs import is_web, need_web

FIGURES = "0123456789"
MOST_FIGURES = 2


def read_number(word):
    """The number that a word of one or two figures writes, without a nought ahead but in 0 itself, or None."""
    # Figures of other scripts are figures to Python, too, so each sign is looked for.
    if not 1 <= len(word) <= MOST_FIGURES or not all([sign in FIGURES for sign in word]):
        return None
    if len(word) > 1 and word[0] == "0":
        return None
    return int(word)


def read_tie(word):
    """The tuple of the two numbers that a word writes, None where it writes none."""
    low, sign, high = word.partition("-")
    return (read_number(low), read_number(high))


def web_text(web):
    """The text that writes a web."""
    need_web(web)
    many, ties = web
    return f"{many}:" + "".join([f" {low}-{high}" for low, high in ties])


def read_web(text):
    """The web that a text writes."""
    if not isinstance(text, str):
        raise NoText("this is no text")
    head, sign, tail = text.partition(":")
    web = (read_number(head), tuple([read_tie(word) for word in tail.split(" ")[1:]]))
    # What was taken for the signs between the numbers may have been others, or none.
    if not is_web(web) or web_text(web) != text:
        raise NoText("this is not how a web is written")
    return web
