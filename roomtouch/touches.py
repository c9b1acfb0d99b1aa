"""Floors by themselves: whether rows cut up an oblong, what lies round each room, and the web of a floor.

A row is a tuple (room, left, bottom, right, top). A side of a room is called by the wall that lies there.
"""

from roomtouch.errors import Meeting, NoFloor
from roomtouch.webs import MOST_ROOMS, WALLS, in_order, is_name

ROW_LENGTH = 5


def is_whole(thing):
    """Whether a thing is a whole number, which True and False are not."""
    return isinstance(thing, int) and not isinstance(thing, bool)


def is_row(thing):
    """Whether a thing is a tuple of a room's name and the four numbers of an oblong, from 0 on."""
    if not isinstance(thing, tuple) or len(thing) != ROW_LENGTH or not is_name(thing[0]):
        return False
    if not all([is_whole(number) for number in thing[1:]]):
        return False
    return 0 <= thing[1] < thing[3] and 0 <= thing[2] < thing[4]


def area(row):
    """The area of a row's oblong."""
    return (row[3] - row[1]) * (row[4] - row[2])


def width_shared(row, other):
    """How much width two oblongs share; 0 where one ends at the line at which the other begins."""
    return min(row[3], other[3]) - max(row[1], other[1])


def height_shared(row, other):
    """How much height two oblongs share; 0 where one ends at the height at which the other begins."""
    return min(row[4], other[4]) - max(row[2], other[2])


def lies_over(row, rows):
    """Whether an oblong lies over one of the others."""
    return any([width_shared(row, other) > 0 and height_shared(row, other) > 0 for other in rows])


def is_any_floor(rows):
    """Whether a thing is a list of rows that is, put in order, a floor, of whichever web or of none."""
    if not isinstance(rows, list) or not 1 <= len(rows) <= MOST_ROOMS:
        return False
    if not all([is_row(row) for row in rows]):
        return False
    if len(set([row[0] for row in rows])) != len(rows):
        return False
    if any([lies_over(row, rows[at + 1 :]) for at, row in enumerate(rows)]):
        return False
    # Oblongs within a greater one that don't lie over one another leave no hole just where the areas add up.
    whole = max([row[3] for row in rows]) * max([row[4] for row in rows])
    return sum([area(row) for row in rows]) == whole


def wall_rows(floor):
    """The walls as oblongs round the floor, so that a room touches them as it touches rooms."""
    right = max([row[3] for row in floor])
    top = max([row[4] for row in floor])
    return [
        ("north", 0, top, right, top + 1),
        ("east", right, 0, right + 1, top),
        ("south", 0, -1, right, 0),
        ("west", -1, 0, 0, top),
    ]


def side_touched(row, other):
    """The side of an oblong at which another shares a piece of wall with it, or None."""
    width = width_shared(row, other)
    height = height_shared(row, other)
    if width > 0 and height == 0:
        return "north" if other[2] == row[4] else "south"
    if width == 0 and height > 0:
        return "east" if other[1] == row[3] else "west"
    return None


def place_clockwise(side, other):
    """A number by which those that touch a room at this side are put in order clockwise."""
    if side == "north":
        return other[1]
    if side == "east":
        return -other[2]
    if side == "south":
        return -other[1]
    return other[2]


def touching(row, rows):
    """All that touch a room, as tuples (side, name), clockwise."""
    found = []
    for side in WALLS:
        there = [(place_clockwise(side, other), other[0]) for other in rows if side_touched(row, other) == side]
        found.extend([(side, name) for place, name in sorted(there)])
    return found


def all_touching(floor):
    """For each room of a floor all that touch it, walls among them, as tuples (side, name), clockwise."""
    rows = floor + wall_rows(floor)
    found = {}
    for row in floor:
        found[row[0]] = touching(row, rows)
    return found


def names_of(touched):
    """The names alone of tuples (side, name)."""
    return [name for side, name in touched]


def four_meet(floor):
    """Whether a spot is a corner of four rooms."""
    counts = {}
    for room, left, bottom, right, top in floor:
        for spot in [(left, bottom), (left, top), (right, bottom), (right, top)]:
            counts[spot] = counts.get(spot, 0) + 1
    return max(counts.values()) == 4


def web_of(rows):
    """The web of a floor; refuses with NoFloor what is none, then with Meeting a floor in which four rooms meet."""
    if not is_any_floor(rows):
        raise NoFloor("these rows don't cut up an oblong")
    if four_meet(rows):
        raise Meeting("four rooms meet")
    touched = all_touching(rows)
    return in_order([(room, names_of(touched[room])) for room in touched])
