"""Webs, floors and slow searches that the tests hold the program against."""

import itertools
import re

WALLS = ("north", "east", "south", "west")

ONE = [("a", ["north", "east", "south", "west"])]
SIDE = [("a", ["north", "b", "south", "west"]), ("b", ["north", "east", "south", "a"])]
STACK = [("a", ["north", "east", "b", "west"]), ("b", ["a", "east", "south", "west"])]
# One room above, two below it.
THREE = [
    ("a", ["north", "east", "c", "b", "west"]),
    ("b", ["a", "c", "south", "west"]),
    ("c", ["a", "east", "south", "b"]),
]
# Four rooms round a fifth.
WHIRL = [
    ("a", ["north", "b", "e", "d", "west"]),
    ("b", ["north", "east", "c", "e", "a"]),
    ("c", ["e", "b", "east", "south", "d"]),
    ("d", ["a", "e", "c", "south", "west"]),
    ("e", ["a", "b", "c", "d"]),
]
# The same with the middle room cut in four, two of them side by side above the others.
GREAT_FLOOR = [
    ("a", 0, 5, 5, 6),
    ("b", 5, 1, 6, 6),
    ("c", 1, 0, 6, 1),
    ("d", 0, 0, 1, 5),
    ("e", 1, 3, 3, 5),
    ("f", 3, 3, 5, 5),
    ("g", 1, 1, 4, 3),
    ("h", 4, 1, 5, 3),
]


def copied(web):
    return [(room, list(ring)) for room, ring in web]


def web_of_floor(floor):
    """The web of a floor in which no four rooms meet."""
    east = max(row[3] for row in floor)
    north = max(row[4] for row in floor)
    web = []
    for room, left, bottom, right, top in floor:
        above = [(r[1], r[0]) for r in floor if r[2] == top and r[1] < right and left < r[3]]
        beside = [(-r[4], r[0]) for r in floor if r[1] == right and r[2] < top and bottom < r[4]]
        beneath = [(-r[3], r[0]) for r in floor if r[4] == bottom and r[1] < right and left < r[3]]
        before = [(r[2], r[0]) for r in floor if r[3] == left and r[2] < top and bottom < r[4]]
        ring = ["north"] if top == north else [name for _, name in sorted(above)]
        ring += ["east"] if right == east else [name for _, name in sorted(beside)]
        ring += ["south"] if bottom == 0 else [name for _, name in sorted(beneath)]
        ring += ["west"] if left == 0 else [name for _, name in sorted(before)]
        web.append((room, ring))
    return web


def tinting_of_floor(floor):
    """The tinting of a floor, read off its numbers."""
    east = max(row[3] for row in floor)
    north = max(row[4] for row in floor)
    rows = []
    for room, left, bottom, right, top in floor:
        rows += [("up", room, r[0]) for r in floor if r[2] == top and r[1] < right and left < r[3]]
        rows += [("on", room, r[0]) for r in floor if r[1] == right and r[2] < top and bottom < r[4]]
        rows += [("up", room, "north")] if top == north else []
        rows += [("on", room, "east")] if right == east else []
        rows += [("up", "south", room)] if bottom == 0 else []
        rows += [("on", "west", room)] if left == 0 else []
    return sorted(rows)


def ties(web):
    rooms = [room for room, _ in web]
    return sorted({(room, name) for room, ring in web for name in ring if name not in rooms or room < name})


def whole_ring(letters):
    """Whether the sides of a ring, a letter each, are in some turn of the ring A.., R.., B.., L.."""
    turned = [letters[k:] + letters[:k] for k in range(len(letters))]
    return any(re.fullmatch("A+R+B+L+", text) for text in turned)


def fits_by_the_words(web, rows):
    """Whether rows, one for each tie, stand as point 8 asks."""
    above = {(one, other) for way, one, other in rows if way == "up"}
    right = {(one, other) for way, one, other in rows if way == "on"}
    for one, other in above:
        if one in ("north", "east", "west") or other in ("south", "east", "west"):
            return False
    for one, other in right:
        if one in ("north", "east", "south") or other in ("south", "north", "west"):
            return False
    for room, ring in web:
        letters = ""
        for name in ring:
            letters += "A" if (room, name) in above else ""
            letters += "R" if (room, name) in right else ""
            letters += "B" if (name, room) in above else ""
            letters += "L" if (name, room) in right else ""
        if not whole_ring(letters):
            return False
    return True


def wall_rows(web):
    """The rows of the ties of rooms and walls, which are the same in each tinting."""
    rows = []
    for room, name in ties(web):
        rows += [("up", room, name)] if name == "north" else []
        rows += [("on", room, name)] if name == "east" else []
        rows += [("up", name, room)] if name == "south" else []
        rows += [("on", name, room)] if name == "west" else []
    return rows


def tintings_by_search(web):
    """All tintings, by trying each of the four ways of each tie of rooms with all those of the others."""
    loose = [four_ways(room, name) for room, name in ties(web) if name not in WALLS]
    tried = [sorted(wall_rows(web) + list(picked)) for picked in itertools.product(*loose)]
    return sorted(rows for rows in tried if fits_by_the_words(web, rows))


def tintings_room_by_room(web):
    """All tintings, by settling the ties of rooms one by one and looking at each room once it is settled."""
    loose = [(room, name) for room, name in ties(web) if name not in WALLS]
    last = {room: -1 for room, _ in web}
    for at, (one, other) in enumerate(loose):
        last[one] = last[other] = at
    tried = [wall_rows(web)]
    for at, (one, other) in enumerate(loose):
        whole = [(room, ring) for room, ring in web if last[room] == at]
        tried = [rows + [row] for rows in tried for row in four_ways(one, other)]
        tried = [rows for rows in tried if fits_by_the_words(whole, rows)]
    return sorted(sorted(rows) for rows in tried if fits_by_the_words(web, rows))


def four_ways(one, other):
    return [("up", one, other), ("up", other, one), ("on", one, other), ("on", other, one)]


def bars_by_the_words(web):
    """All threes that bar, by looking at every three names."""
    tied = {frozenset((WALLS[k - 1], WALLS[k])) for k in range(4)}
    tied |= {frozenset((room, name)) for room, ring in web for name in ring}
    corners = {frozenset((room, ring[k - 1], ring[k])) for room, ring in web for k in range(len(ring))}
    names = sorted([room for room, _ in web] + list(WALLS))
    found = []
    for three in itertools.combinations(names, 3):
        pairs = [frozenset(pair) for pair in itertools.combinations(three, 2)]
        if all(pair in tied for pair in pairs) and frozenset(three) not in corners:
            found.append(list(three))
    return found


def named_in_turn(web):
    """The web with its rooms called a, b, c.. as they are come to from the corner of north and east."""
    rings = dict(web)
    start = [room for room in rings if ("north", "east") in zip(rings[room], rings[room][1:] + rings[room][:1])]
    order = [(start[0], "north")]
    names = {wall: wall for wall in WALLS}
    names[start[0]] = "a"
    told = []
    for room, first in order:
        at = rings[room].index(first)
        ring = rings[room][at:] + rings[room][:at]
        for name in ring:
            if name not in names:
                names[name] = "abcdefghijkl"[len(order)]
                order.append((name, room))
        told.append((names[room], [names[name] for name in ring]))
    return told


def flips(web):
    """All webs that come of this one by one tie laid across the two threes that it parts."""
    rings = dict(web)
    for room, name in ties(web):
        ring = rings[room]
        at = ring.index(name)
        one, other = ring[at - 1], ring[(at + 1) % len(ring)]
        if one in WALLS and other in WALLS:
            continue
        if other in rings.get(one, []) or one in rings.get(other, []):
            continue
        new = {r: list(rings[r]) for r in rings}
        if one in new:
            new[one].insert(new[one].index(name) + 1, other)
        if other in new:
            new[other].insert(new[other].index(room) + 1, one)
        new[room].remove(name)
        if name in new:
            new[name].remove(room)
        yield list(new.items())


def pile(count):
    """A web of so many rooms above one another."""
    names = ["north"] + list("abcdefghijkl"[:count]) + ["south"]
    return [(names[k], [names[k - 1], "east", names[k + 1], "west"]) for k in range(1, count + 1)]


def all_webs(count):
    """All webs of so many rooms, but for the rooms' names."""
    start = named_in_turn(pile(count))
    seen = {repr(start)}
    found = [start]
    for web in found:
        for flipped in flips(web):
            named = named_in_turn(flipped)
            if repr(named) not in seen:
                seen.add(repr(named))
                found.append(named)
    return found


def broken(web):
    """The numbers, in the list of point 6, of the conditions that do not hold, each looked at by itself."""
    rings = dict(web)
    corners = [(room, ring[k - 1], ring[k]) for room, ring in web for k in range(len(ring))]
    found = set()
    for room, ring in web:
        if any(name in rings and room not in rings[name] for name in ring):
            found.add(1)
    for room, one, other in corners:
        if one in rings and (one, other, room) not in corners:
            found.add(2)
        if other in rings and (other, room, one) not in corners:
            found.add(2)
        if one in WALLS and other in WALLS and other != WALLS[WALLS.index(one) - 3]:
            found.add(2)
    if not all(in_one_row(rings, corners, wall) for wall in WALLS):
        found.add(3)
    if not from_walls(rings):
        found.add(4)
    tied = {frozenset((room, name)) for room, ring in web for name in ring}
    threes = {frozenset(corner) for corner in corners}
    if len(threes) != len(tied) - len(web) + 1:
        found.add(5)
    return sorted(found)


def in_one_row(rings, corners, wall):
    firsts = [room for room, one, other in corners if one == wall and other == WALLS[WALLS.index(wall) - 3]]
    if len(firsts) != 1:
        return False
    come_to = set()
    at = firsts[0]
    while at in rings and at not in come_to and wall in rings[at]:
        come_to.add(at)
        at = rings[at][rings[at].index(wall) - 1]
    return come_to == {room for room in rings if wall in rings[room]}


def from_walls(rings):
    come_to = {room for room in rings if any(name in WALLS for name in rings[room])}
    todo = sorted(come_to)
    while todo:
        for name in rings[todo.pop()]:
            if name in rings and name not in come_to:
                come_to.add(name)
                todo.append(name)
    return come_to == set(rings)


def steps_from(seed):
    """Numbers that look like chance and are the same each time."""
    state = seed * 7919 + 17
    while True:
        state = (state * 1103515245 + 12345) % 2147483648
        yield state // 65536


def cut_floor(count, seed):
    """A floor of so many rooms, made by cuts each of which lies at a number of its own."""
    steps = steps_from(seed)
    floor = [("a", 0, 0, 4096, 4096)]
    while len(floor) < count:
        at = next(steps) % len(floor)
        room, left, bottom, right, top = floor[at]
        spot = 1 + next(steps) % 4095
        taken = {number for row in floor for number in row[1:]}
        name = "abcdefghijkl"[len(floor)]
        if spot in taken:
            continue
        if next(steps) % 2 == 0 and left < spot < right:
            floor[at] = (room, left, bottom, spot, top)
            floor.append((name, spot, bottom, right, top))
        elif bottom < spot < top:
            floor[at] = (room, left, bottom, right, spot)
            floor.append((name, left, spot, right, top))
    return floor


def wander(web, count, seed):
    """The web that comes of so many flips."""
    steps = steps_from(seed)
    for _ in range(count):
        near = list(flips(web))
        web = near[next(steps) % len(near)]
    return web
