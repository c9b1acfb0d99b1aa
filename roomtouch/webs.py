"""Webs: which rooms and walls are tied, and in which order they stand round each room.

Within the package a web that was let by is a dict, dict(web), of each room's ring: its neighbours, clockwise.
"""

from roomtouch.errors import NoWeb

# In the order of their ring: behind the last comes the first.
WALLS = ("north", "east", "south", "west")
MOST_ROOMS = 8
LONGEST_NAME = 8
FEWEST_NEIGHBOURS = 3


def follower(wall):
    """The wall that follows a wall in the ring of walls."""
    return WALLS[(WALLS.index(wall) + 1) % len(WALLS)]


def is_name(thing):
    """Whether a thing may be the name of a room."""
    if not isinstance(thing, str) or thing in WALLS:
        return False
    if not 1 <= len(thing) <= LONGEST_NAME:
        return False
    return all(["a" <= sign <= "z" for sign in thing])


def is_pair(thing):
    """Whether a thing is a tuple of a room's name and a list."""
    if not isinstance(thing, tuple) or len(thing) != 2:
        return False
    return is_name(thing[0]) and isinstance(thing[1], list)


def is_ring(room, ring, names):
    """Whether a list may be a room's neighbours, where names are all rooms and walls."""
    if len(ring) < FEWEST_NEIGHBOURS:
        return False
    if not all([name in names and name != room for name in ring]):
        return False
    return len(set(ring)) == len(ring)


def has_form(web):
    """Whether a thing is a list of rooms, each once, with lists that may be their neighbours."""
    if not isinstance(web, list) or not 1 <= len(web) <= MOST_ROOMS:
        return False
    if not all([is_pair(pair) for pair in web]):
        return False
    rooms = [room for room, ring in web]
    if len(set(rooms)) != len(rooms):
        return False
    names = rooms + list(WALLS)
    return all([is_ring(room, ring, names) for room, ring in web])


def ties_are_shared(rings):
    """Whether each room has those rooms among its neighbours that have it among theirs."""
    for room in rings:
        for name in rings[room]:
            if name in rings and room not in rings[name]:
                return False
    return True


def corners_of(rings):
    """All corners (room, name, the name next behind it round the room), as a dict of True."""
    corners = {}
    for room in rings:
        ring = rings[room]
        for name, behind in zip(ring, ring[1:] + ring[:1]):
            corners[(room, name, behind)] = True
    return corners


def corner_closes(corner, corners):
    """Whether the rooms that a corner names have the corner that belongs to it, and its walls follow."""
    room = corner[0]
    name = corner[1]
    behind = corner[2]
    if name in WALLS and behind in WALLS:
        return behind == follower(name)
    if name not in WALLS and (name, behind, room) not in corners:
        return False
    return behind in WALLS or (behind, room, name) in corners


def corners_close(rings):
    """Whether all corners of the rings belong together by threes."""
    corners = corners_of(rings)
    return all([corner_closes(corner, corners) for corner in corners])


def row_along(rings, wall, first):
    """The rooms that are come to along a wall, from the first on; the corners of the rings are to close."""
    row = []
    name = first
    # Corners that close give each room but the first just one that leads to it, so no room comes again.
    while name in rings:
        row.append(name)
        ring = rings[name]
        name = ring[ring.index(wall) - 1]
    return row


def wall_has_row(rings, wall):
    """Whether a wall has one room at the corner with its follower, and all its rooms in one row from there."""
    corners = corners_of(rings)
    firsts = [room for room in rings if (room, wall, follower(wall)) in corners]
    if len(firsts) != 1:
        return False
    tied = [room for room in rings if wall in rings[room]]
    return sorted(row_along(rings, wall, firsts[0])) == sorted(tied)


def has_one_of(ring, names):
    """Whether one of the names stands in a ring."""
    return any([name in names for name in ring])


def all_reached(rings):
    """Whether each room can be come to from a wall by ties."""
    reached = list(WALLS)
    # A way of the fewest ties from a wall to a room has no more ties than there are rooms.
    for turn in range(len(rings)):
        reached = list(WALLS) + [room for room in rings if has_one_of(rings[room], reached)]
    return all([room in reached for room in rings])


def ties_of(rings):
    """All ties of rooms, and of a room and a wall, as tuples of two names, a room first, each tie once."""
    ties = []
    for room in rings:
        for name in rings[room]:
            if name in WALLS or room < name:
                ties.append((room, name))
    return ties


def threes_of(rings):
    """All threes, as a dict of True by tuples of three names in order."""
    threes = {}
    for corner in corners_of(rings):
        threes[tuple(sorted(corner))] = True
    return threes


def must_web(web):
    """Refuse with NoWeb what is no web."""
    if not has_form(web):
        raise NoWeb("this is no list of rooms with their neighbours")
    rings = dict(web)
    if not ties_are_shared(rings):
        raise NoWeb("a room has a neighbour that doesn't have it")
    if not corners_close(rings):
        raise NoWeb("the orders round the rooms don't fit together")
    if not all([wall_has_row(rings, wall) for wall in WALLS]):
        raise NoWeb("the rooms at a wall don't stand in one row")
    if not all_reached(rings):
        raise NoWeb("a room can't be come to from the walls")
    if len(threes_of(rings)) != len(ties_of(rings)) - len(rings) + 1:
        raise NoWeb("the web can't be drawn without crossings")


def begun_at_first(ring):
    """A ring begun with the first of its names."""
    at = ring.index(min(ring))
    return ring[at:] + ring[:at]


def in_order(web):
    """A web put in order, each ring begun with the first of its names, with lists of its own."""
    return sorted([(room, begun_at_first(ring)) for room, ring in web])


def are_tied(rings, one, other):
    """Whether two names, rooms or walls, are tied."""
    if one in rings:
        return other in rings[one]
    if other in rings:
        return one in rings[other]
    return follower(one) == other or follower(other) == one


def bars(web):
    """All threes of names that bar a floor of the web, in order."""
    must_web(web)
    rings = dict(web)
    threes = threes_of(rings)
    names = sorted(list(rings) + list(WALLS))
    found = []
    for one in names:
        ties = [name for name in names if name > one and are_tied(rings, one, name)]
        for other in ties:
            # Of any three walls two lie across from one another, untied: so a room is always among the three.
            thirds = [name for name in ties if name > other and are_tied(rings, other, name)]
            found.extend([[one, other, third] for third in thirds if (one, other, third) not in threes])
    return found
