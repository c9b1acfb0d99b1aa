"""Floors of a web: whether rows are one, the tinting of one, and the least one of a tinting.

Along a way a room goes from its low number to its high one: along "on" from left to right, along "up" from bottom to
top.
"""

from roomtouch.errors import NoFloor, NoTinting
from roomtouch.tintings import is_tinting, row_of
from roomtouch.touches import all_touching, is_any_floor, names_of
from roomtouch.webs import must_web


def is_floor(web, rows):
    """Whether a list of tuples (room, left, bottom, right, top) is, put in order, a floor of the web."""
    must_web(web)
    if not is_any_floor(rows):
        return False
    rings = dict(web)
    touched = all_touching(rows)
    if sorted(rings) != sorted(touched):
        return False
    # The ties alone settle the order round each room: a web can be drawn in one way within its walls.
    return all([sorted(rings[room]) == sorted(names_of(touched[room])) for room in rings])


def tinting_of(web, floor):
    """The tinting of a floor of the web; refuses with NoFloor what is none."""
    if not is_floor(web, floor):
        raise NoFloor("this is no floor of the web")
    touched = all_touching(floor)
    rows = {}
    for room in touched:
        for side, name in touched[room]:
            # A tie of two rooms is come to from both, as the same row.
            rows[row_of(room, name, side)] = True
    return sorted(rows)


def low(name):
    """What stands for the low number of a room, or of a wall."""
    return (name, "low")


def high(name):
    """What stands for the high number of a room, or of a wall."""
    return (name, "high")


def gaps_along(rooms, tinting, way, wishes):
    """All that a floor of the tinting asks of the numbers along a way.

    A tuple (one, other, gap) asks that the number of other is that of one and gap more, at least.
    """
    gaps = [(low(room), high(room), wishes.get(room, 1)) for room in rooms]
    for goes, one, other in tinting:
        if goes == way:
            gaps.append((high(one), low(other), 0))
            gaps.append((low(other), high(one), 0))
        elif one in rooms and other in rooms:
            # The two touch across this way, so they share a piece of it that is longer than 0.
            gaps.append((low(one), high(other), 1))
            gaps.append((low(other), high(one), 1))
    return gaps


def least_numbers(gaps):
    """The least numbers from 0 on that keep all gaps."""
    numbers = {}
    for one, other, gap in gaps:
        numbers[one] = 0
        numbers[other] = 0
    # Each least number is the sum of a row of gaps that comes to no number twice, and each turn goes a gap further:
    # so the turns are few, however great the gaps.
    for turn in range(len(numbers)):
        for one, other, gap in gaps:
            numbers[other] = max(numbers[other], numbers[one] + gap)
    return numbers


def wished(web, tinting, sizes):
    """The least floor of a tinting in which each room of sizes, tuples (room, width, height), is at least so great."""
    if not is_tinting(web, tinting):
        raise NoTinting("this is no tinting of the web")
    widths = {}
    heights = {}
    for room, width, height in sizes:
        widths[room] = width
        heights[room] = height
    rooms = sorted(dict(web))
    across = least_numbers(gaps_along(rooms, tinting, "on", widths))
    upward = least_numbers(gaps_along(rooms, tinting, "up", heights))
    return [(room, across[low(room)], upward[low(room)], across[high(room)], upward[high(room)]) for room in rooms]


def least_floor(web, tinting):
    """The least floor of a tinting, in order; refuses with NoTinting what is none."""
    return wished(web, tinting, [])
