"""Texts: webs and floors shown as lines, and read again."""

from roomtouch.errors import NoText, NoWeb
from roomtouch.touches import is_any_floor
from roomtouch.webs import in_order, must_web

MOST_FIGURES = 60


def show_web(web):
    """The text of a web: a line for each room, with its neighbours."""
    must_web(web)
    lines = []
    for room, ring in in_order(web):
        names = " ".join(ring)
        lines.append(f"{room}: {names}")
    return "\n".join(lines)


def show_floor(floor):
    """The text of a floor: a line for each room, with its numbers."""
    return "\n".join([f"{room} {left} {bottom} {right} {top}" for room, left, bottom, right, top in sorted(floor)])


def read_ring(line):
    """The room and its neighbours that a line is to show; whether it does, the text shown anew tells."""
    words = line.split(" ")
    return (words[0][:-1], words[1:])


def read_web(text):
    """The web whose text this is; refuses with NoText what is the text of none."""
    web = [read_ring(line) for line in text.split("\n")]
    try:
        shown = show_web(web)
    except NoWeb:
        raise NoText("the lines are of no web") from None
    if shown != text:
        raise NoText("the web is shown otherwise")
    return web


def read_number(word):
    """The number that a word is to show, or None where it shows none or has too many figures."""
    if not 1 <= len(word) <= MOST_FIGURES:
        return None
    if not all(["0" <= sign <= "9" for sign in word]):
        return None
    return int(word)


def read_row(line):
    """The room and its numbers that a line is to show; whether it does, the text shown anew tells."""
    words = line.split(" ")
    return tuple(words[:1] + [read_number(word) for word in words[1:]])


def read_floor(text):
    """The floor whose text this is; refuses with NoText what is the text of none."""
    rows = [read_row(line) for line in text.split("\n")]
    if not is_any_floor(rows):
        raise NoText("the lines are of no floor")
    if show_floor(rows) != text:
        raise NoText("the floor is shown otherwise")
    return rows
