"""Tintings: for each tie of a web whether it goes up or on.

A side of a room is called by the wall that lies there: north is above, east to the right.
"""

from roomtouch.webs import WALLS, follower, must_web, ties_of


def row_of(room, name, side):
    """The tuple of a tinting that says: the name lies on this side of the room."""
    if side == "north":
        return ("up", room, name)
    if side == "east":
        return ("on", room, name)
    if side == "south":
        return ("up", name, room)
    return ("on", name, room)


def goes_round(sides):
    """Whether the sides of a ring's names are one row of each side, clockwise."""
    turns = 0
    for side, behind in zip(sides, sides[1:] + sides[:1]):
        if behind == follower(side):
            turns = turns + 1
        elif behind != side:
            return False
    # One side alone has no turn, and going round twice has eight.
    return turns == len(WALLS)


def stands_round(room, ring, rows):
    """Whether rows give each name of a room's ring just one side, walls their own, and these go round."""
    sides = []
    for name in ring:
        told = [side for side in WALLS if row_of(room, name, side) in rows]
        if len(told) != 1:
            return False
        if name in WALLS and told[0] != name:
            return False
        sides.append(told[0])
    return goes_round(sides)


def is_tinting(web, rows):
    """Whether a list of tuples of three texts is, put in order, a tinting of the web."""
    must_web(web)
    rings = dict(web)
    # As many rows as ties, and a row for each tie: so none stands twice, and none is strange.
    if len(rows) != len(ties_of(rings)):
        return False
    return all([stands_round(room, rings[room], rows) for room in rings])


def wall_sides(rings):
    """The sides that are settled from the start, those of the walls, by (room, wall)."""
    sides = {}
    for room, name in ties_of(rings):
        if name in WALLS:
            sides[(room, name)] = name
    return sides


def ways_round(room, ring, sides):
    """All lists of sides for a room's ring that go round and keep to the sides settled."""
    ways = [[]]
    for name in ring:
        longer = []
        for way in ways:
            for side in WALLS:
                fits = sides.get((room, name), side) == side
                if fits and (way == [] or side == way[-1] or side == follower(way[-1])):
                    longer.append(way + [side])
        ways = longer
    return [way for way in ways if goes_round(way)]


def with_way(room, ring, way, sides):
    """The sides settled, and those that a way round a room settles, seen from both ends of each tie."""
    more = dict(sides)
    for name, side in zip(ring, way):
        more[(room, name)] = side
        more[(name, room)] = follower(follower(side))
    return more


def rows_of(rings, sides):
    """The tinting, in order, in which each name lies on the side settled."""
    return sorted([row_of(room, name, sides[(room, name)]) for room, name in ties_of(rings)])


def tintings(web):
    """All tintings of the web, in order."""
    must_web(web)
    rings = dict(web)
    found = [wall_sides(rings)]
    for room in rings:
        longer = []
        for sides in found:
            for way in ways_round(room, rings[room], sides):
                longer.append(with_way(room, rings[room], way, sides))
        found = longer
    return sorted([rows_of(rings, sides) for sides in found])
