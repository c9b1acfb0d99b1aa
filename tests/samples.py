"""Webs, floors and slow searches that the tests hold the program against."""

import itertools
import re

WALLS = ("north", "east", "south", "west")

ONE = [("a", ["north", "east", "south", "west"])]
SIDE = [("a", ["north", "b", "south", "west"]), ("b", ["north", "east", "south", "a"])]
STACK = [("a", ["north", "east", "b", "west"]), ("b", ["a", "east", "south", "west"])]
# One room above, two below it.
THREE = [
    ("a", ["north", "east", "c", "b", "west"]),
    ("b", ["a", "c", "south", "west"]),
    ("c", ["a", "east", "south", "b"]),
]
# Four rooms round a fifth.
WHIRL = [
    ("a", ["north", "b", "e", "d", "west"]),
    ("b", ["north", "east", "c", "e", "a"]),
    ("c", ["e", "b", "east", "south", "d"]),
    ("d", ["a", "e", "c", "south", "west"]),
    ("e", ["a", "b", "c", "d"]),
]
# The same with the middle room cut in four, two of them side by side above the others.
GREAT_FLOOR = [
    ("a", 0, 5, 5, 6),
    ("b", 5, 1, 6, 6),
    ("c", 1, 0, 6, 1),
    ("d", 0, 0, 1, 5),
    ("e", 1, 3, 3, 5),
    ("f", 3, 3, 5, 5),
    ("g", 1, 1, 4, 3),
    ("h", 4, 1, 5, 3),
]


def copied(web):
    return [(room, list(ring)) for room, ring in web]


def web_of_floor(floor):
    """The web of a floor in which no four rooms meet."""
    east = max(row[3] for row in floor)
    north = max(row[4] for row in floor)
    web = []
    for room, left, bottom, right, top in floor:
        above = [(r[1], r[0]) for r in floor if r[2] == top and r[1] < right and left < r[3]]
        beside = [(-r[4], r[0]) for r in floor if r[1] == right and r[2] < top and bottom < r[4]]
        beneath = [(-r[3], r[0]) for r in floor if r[4] == bottom and r[1] < right and left < r[3]]
        before = [(r[2], r[0]) for r in floor if r[3] == left and r[2] < top and bottom < r[4]]
        ring = ["north"] if top == north else [name for _, name in sorted(above)]
        ring += ["east"] if right == east else [name for _, name in sorted(beside)]
        ring += ["south"] if bottom == 0 else [name for _, name in sorted(beneath)]
        ring += ["west"] if left == 0 else [name for _, name in sorted(before)]
        web.append((room, ring))
    return web


def tinting_of_floor(floor):
    """The tinting of a floor, read off its numbers."""
    east = max(row[3] for row in floor)
    north = max(row[4] for row in floor)
    rows = []
    for room, left, bottom, right, top in floor:
        rows += [("up", room, r[0]) for r in floor if r[2] == top and r[1] < right and left < r[3]]
        rows += [("on", room, r[0]) for r in floor if r[1] == right and r[2] < top and bottom < r[4]]
        rows += [("up", room, "north")] if top == north else []
        rows += [("on", room, "east")] if right == east else []
        rows += [("up", "south", room)] if bottom == 0 else []
        rows += [("on", "west", room)] if left == 0 else []
    return sorted(rows)


def ties(web):
    rooms = [room for room, _ in web]
    return sorted({(room, name) for room, ring in web for name in ring if name not in rooms or room < name})


def whole_ring(letters):
    """Whether the sides of a ring, a letter each, are in some turn of the ring A.., R.., B.., L.."""
    turned = [letters[k:] + letters[:k] for k in range(len(letters))]
    return any(re.fullmatch("A+R+B+L+", text) for text in turned)


def fits_by_the_words(web, rows):
    """Whether rows, one for each tie, stand as point 8 asks."""
    above = {(one, other) for way, one, other in rows if way == "up"}
    right = {(one, other) for way, one, other in rows if way == "on"}
    for one, other in above:
        if one in ("north", "east", "west") or other in ("south", "east", "west"):
            return False
    for one, other in right:
        if one in ("north", "east", "south") or other in ("south", "north", "west"):
            return False
    for room, ring in web:
        letters = ""
        for name in ring:
            letters += "A" if (room, name) in above else ""
            letters += "R" if (room, name) in right else ""
            letters += "B" if (name, room) in above else ""
            letters += "L" if (name, room) in right else ""
        if not whole_ring(letters):
            return False
    return True


def wall_rows(web):
    """The rows of the ties of rooms and walls, which are the same in each tinting."""
    rows = []
    for room, name in ties(web):
        rows += [("up", room, name)] if name == "north" else []
        rows += [("on", room, name)] if name == "east" else []
        rows += [("up", name, room)] if name == "south" else []
        rows += [("on", name, room)] if name == "west" else []
    return rows


def tintings_by_search(web):
    """All tintings, by trying each of the four ways of each tie of rooms with all those of the others."""
    loose = [four_ways(room, name) for room, name in ties(web) if name not in WALLS]
    tried = [sorted(wall_rows(web) + list(picked)) for picked in itertools.product(*loose)]
    return sorted(rows for rows in tried if fits_by_the_words(web, rows))


def tintings_room_by_room(web):
    """All tintings, by settling the ties of rooms one by one and looking at each room once it is settled."""
    loose = [(room, name) for room, name in ties(web) if name not in WALLS]
    last = {room: -1 for room, _ in web}
    for at, (one, other) in enumerate(loose):
        last[one] = last[other] = at
    tried = [wall_rows(web)]
    for at, (one, other) in enumerate(loose):
        whole = [(room, ring) for room, ring in web if last[room] == at]
        tried = [rows + [row] for rows in tried for row in four_ways(one, other)]
        tried = [rows for rows in tried if fits_by_the_words(whole, rows)]
    return sorted(sorted(rows) for rows in tried if fits_by_the_words(web, rows))


def four_ways(one, other):
    return [("up", one, other), ("up", other, one), ("on", one, other), ("on", other, one)]


def bars_by_the_words(web):
    """All threes that bar, by looking at every three names."""
    tied = {frozenset((WALLS[k - 1], WALLS[k])) for k in range(4)}
    tied |= {frozenset((room, name)) for room, ring in web for name in ring}
    corners = {frozenset((room, ring[k - 1], ring[k])) for room, ring in web for k in range(len(ring))}
    names = sorted([room for room, _ in web] + list(WALLS))
    found = []
    for three in itertools.combinations(names, 3):
        pairs = [frozenset(pair) for pair in itertools.combinations(three, 2)]
        if all(pair in tied for pair in pairs) and frozenset(three) not in corners:
            found.append(list(three))
    return found


def named_in_turn(web):
    """The web with its rooms called a, b, c.. as they are come to from the corner of north and east."""
    return names_in_turn(web)[1]


def names_in_turn(web):
    """The names by the old ones, and the web with these names."""
    rings = dict(web)
    start = [room for room in rings if ("north", "east") in zip(rings[room], rings[room][1:] + rings[room][:1])]
    order = [(start[0], "north")]
    names = {wall: wall for wall in WALLS}
    names[start[0]] = "a"
    told = []
    for room, first in order:
        at = rings[room].index(first)
        ring = rings[room][at:] + rings[room][:at]
        for name in ring:
            if name not in names:
                names[name] = "abcdefghijkl"[len(order)]
                order.append((name, room))
        told.append((names[room], [names[name] for name in ring]))
    return names, told


def flips(web):
    """All webs that come of this one by one tie laid across the two threes that it parts."""
    rings = dict(web)
    for room, name in ties(web):
        ring = rings[room]
        at = ring.index(name)
        one, other = ring[at - 1], ring[(at + 1) % len(ring)]
        if one in WALLS and other in WALLS:
            continue
        if other in rings.get(one, []) or one in rings.get(other, []):
            continue
        new = {r: list(rings[r]) for r in rings}
        if one in new:
            new[one].insert(new[one].index(name) + 1, other)
        if other in new:
            new[other].insert(new[other].index(room) + 1, one)
        new[room].remove(name)
        if name in new:
            new[name].remove(room)
        yield list(new.items())


def pile(count):
    """A web of so many rooms above one another."""
    names = ["north"] + list("abcdefghijkl"[:count]) + ["south"]
    return [(names[k], [names[k - 1], "east", names[k + 1], "west"]) for k in range(1, count + 1)]


def all_webs(count):
    """All webs of so many rooms, but for the rooms' names."""
    start = named_in_turn(pile(count))
    seen = {repr(start)}
    found = [start]
    for web in found:
        for flipped in flips(web):
            named = named_in_turn(flipped)
            if repr(named) not in seen:
                seen.add(repr(named))
                found.append(named)
    return found


def broken(web):
    """The numbers, in the list of point 6, of the conditions that do not hold, each looked at by itself."""
    rings = dict(web)
    corners = [(room, ring[k - 1], ring[k]) for room, ring in web for k in range(len(ring))]
    found = set()
    for room, ring in web:
        if any(name in rings and room not in rings[name] for name in ring):
            found.add(1)
    for room, one, other in corners:
        if one in rings and (one, other, room) not in corners:
            found.add(2)
        if other in rings and (other, room, one) not in corners:
            found.add(2)
        if one in WALLS and other in WALLS and other != WALLS[WALLS.index(one) - 3]:
            found.add(2)
    if not all(in_one_row(rings, corners, wall) for wall in WALLS):
        found.add(3)
    if not from_walls(rings):
        found.add(4)
    tied = {frozenset((room, name)) for room, ring in web for name in ring}
    threes = {frozenset(corner) for corner in corners}
    if len(threes) != len(tied) - len(web) + 1:
        found.add(5)
    return sorted(found)


def in_one_row(rings, corners, wall):
    firsts = [room for room, one, other in corners if one == wall and other == WALLS[WALLS.index(wall) - 3]]
    if len(firsts) != 1:
        return False
    come_to = set()
    at = firsts[0]
    while at in rings and at not in come_to and wall in rings[at]:
        come_to.add(at)
        at = rings[at][rings[at].index(wall) - 1]
    return come_to == {room for room in rings if wall in rings[room]}


def from_walls(rings):
    come_to = {room for room in rings if any(name in WALLS for name in rings[room])}
    todo = sorted(come_to)
    while todo:
        for name in rings[todo.pop()]:
            if name in rings and name not in come_to:
                come_to.add(name)
                todo.append(name)
    return come_to == set(rings)


def steps_from(seed):
    """Numbers that look like chance and are the same each time."""
    state = seed * 7919 + 17
    while True:
        state = (state * 1103515245 + 12345) % 2147483648
        yield state // 65536


def cut_floor(count, seed):
    """A floor of so many rooms, made by cuts each of which lies at a number of its own."""
    steps = steps_from(seed)
    floor = [("a", 0, 0, 4096, 4096)]
    while len(floor) < count:
        at = next(steps) % len(floor)
        room, left, bottom, right, top = floor[at]
        spot = 1 + next(steps) % 4095
        taken = {number for row in floor for number in row[1:]}
        name = "abcdefghijkl"[len(floor)]
        if spot in taken:
            continue
        if next(steps) % 2 == 0 and left < spot < right:
            floor[at] = (room, left, bottom, spot, top)
            floor.append((name, spot, bottom, right, top))
        elif bottom < spot < top:
            floor[at] = (room, left, bottom, right, spot)
            floor.append((name, left, spot, right, top))
    return floor


def wander(web, count, seed):
    """The web that comes of so many flips."""
    steps = steps_from(seed)
    for _ in range(count):
        near = list(flips(web))
        web = near[next(steps) % len(near)]
    return web


def is_any_floor_by_the_words(rows):
    """Whether rows are a floor, of whichever web, by looking at each field between the numbers that occur."""
    if not 1 <= len(rows) <= 8 or len({row[0] for row in rows}) != len(rows):
        return False
    for room, left, bottom, right, top in rows:
        if not re.fullmatch("[a-z]{1,8}", room) or room in WALLS:
            return False
        if {number.__class__ for number in (left, bottom, right, top)} != {int}:
            return False
        if left < 0 or bottom < 0 or left >= right or bottom >= top:
            return False
    lines = sorted({0} | {row[1] for row in rows} | {row[3] for row in rows})
    heights = sorted({0} | {row[2] for row in rows} | {row[4] for row in rows})
    for left, right in zip(lines, lines[1:]):
        for bottom, top in zip(heights, heights[1:]):
            over = [r for r in rows if r[1] <= left and right <= r[3] and r[2] <= bottom and top <= r[4]]
            if len(over) != 1:
                return False
    return True


def pairs_touching(floor):
    """All pairs of names, a wall's among them, that share a piece of wall."""
    east = max(row[3] for row in floor)
    north = max(row[4] for row in floor)
    pairs = set()
    for room, left, bottom, right, top in floor:
        for name, side, line in [("west", left, 0), ("south", bottom, 0), ("east", right, east), ("north", top, north)]:
            if side == line:
                pairs.add(frozenset((room, name)))
        for name, other_left, other_bottom, other_right, other_top in floor:
            if top == other_bottom and (left <= other_left < right or other_left <= left < other_right):
                pairs.add(frozenset((room, name)))
            if right == other_left and (bottom <= other_bottom < top or other_bottom <= bottom < other_top):
                pairs.add(frozenset((room, name)))
    return pairs


def is_floor_by_the_words(web, rows):
    """Whether rows are a floor of the web."""
    if not is_any_floor_by_the_words(rows) or {row[0] for row in rows} != {room for room, _ in web}:
        return False
    return pairs_touching(rows) == {frozenset((room, name)) for room, ring in web for name in ring}


def four_meet(floor):
    """Whether a spot is a corner of four rooms."""
    spots = [(x, y) for _, left, bottom, right, top in floor for x in (left, right) for y in (bottom, top)]
    return any(spots.count(spot) > 3 for spot in spots)


def floors_within(width, height, count):
    """All floors of so many rooms, a, b, c.., that fill an oblong, but for the names."""

    def fill(heights, rows):
        low = min(heights)
        if low == height and len(rows) == count:
            yield rows
        if low == height or len(rows) == count:
            return
        left = right = heights.index(low)
        while right < width and heights[right] == low:
            right += 1
            for top in range(low + 1, height + 1):
                row = ("abcdefgh"[len(rows)], left, low, right, top)
                yield from fill(heights[:left] + [top] * (right - left) + heights[right:], rows + [row])

    return fill([0] * width, [])


def floors_by_tinting(count, most):
    """All floors of so many rooms with numbers up to most, without a meeting of four, by web and tinting.

    The webs are named in turn, as those of all_webs.
    """
    found = {}
    for width, height in itertools.product(range(1, most + 1), repeat=2):
        for floor in floors_within(width, height, count):
            if not four_meet(floor):
                names, web = names_in_turn(web_of_floor(floor))
                named = sorted((names[row[0]],) + row[1:] for row in floor)
                found.setdefault((repr(web), repr(tinting_of_floor(named))), []).append(named)
    return found


def least_of(floors):
    """The tuples of the least numbers at each place of floors of the same rooms, each in order."""
    return [rows[0][:1] + tuple(min(numbers) for numbers in zip(*rows))[1:] for rows in zip(*floors)]


def fits_wishes(floor, sizes):
    """Whether each room that is named in sizes is at least so wide and so high."""
    wide = {row[0]: row[3] - row[1] for row in floor}
    high = {row[0]: row[4] - row[2] for row in floor}
    return all(wide[room] >= width and high[room] >= height for room, width, height in sizes)


def walls_of(floor, place):
    """The sides, tuples (room, place), in lots that lie on one wall, but for those at 0; the place is 1 or 2."""
    pairs = pairs_touching(floor)
    lots = [{(row[0], side)} for row in floor for side in (place, place + 2) if row[side] != 0]
    for one, other in itertools.permutations(floor, 2):
        same = []
        if one[place + 2] == other[place] and frozenset((one[0], other[0])) in pairs:
            same = [(one[0], place + 2), (other[0], place)]
        if one[place + 2] == other[place + 2] == max(row[place + 2] for row in floor):
            same = [(one[0], place + 2), (other[0], place + 2)]
        touched = [lot for lot in lots if lot & set(same)]
        lots = [lot for lot in lots if lot not in touched] + ([set().union(*touched)] if touched else [])
    return lots


def with_wall_moved(floor, wall, step):
    """The list that comes of a wall, a lot of sides, moved by a step."""
    return [row[:1] + tuple(row[k] + step * ((row[0], k) in wall) for k in (1, 2, 3, 4)) for row in floor]


def shrunk(web, floor, sizes):
    """The least floor of a floor's tinting and with wishes, by moving its walls one by one, step by step."""
    tinting = tinting_of_floor(floor)
    walls = walls_of(floor, 1) + walls_of(floor, 2)
    still = 0
    for wall in itertools.cycle(walls):
        if still == len(walls):
            return sorted(floor)
        moved = with_wall_moved(floor, wall, -1)
        good = fits_wishes(moved, sizes) and is_floor_by_the_words(web, moved) and tinting_of_floor(moved) == tinting
        still = 0 if good else still + 1
        floor = moved if good else floor


def ranked(floor, step=1):
    """The floor with each number as small as its order among the others lets it be, times a step."""
    lines = sorted({row[1] for row in floor} | {row[3] for row in floor})
    heights = sorted({row[2] for row in floor} | {row[4] for row in floor})
    told = []
    for room, left, bottom, right, top in floor:
        numbers = (lines.index(left), heights.index(bottom), lines.index(right), heights.index(top))
        told.append((room,) + tuple(step * number for number in numbers))
    return told


def stretched(floor, lines, heights):
    """The floor with the numbers k of its lines and heights put to other ones, lines[k] and heights[k]."""
    return [(r[0], lines[r[1]], heights[r[2]], lines[r[3]], heights[r[4]]) for r in floor]


def renamed(floor, names):
    """The floor with its rooms a, b, c.. called otherwise, in turn."""
    return [(names["abcdefgh".index(row[0])],) + row[1:] for row in floor]


def web_in_order(web):
    """The web in order, each ring begun with its first name."""
    return sorted((room, min(ring[k:] + ring[:k] for k in range(len(ring)))) for room, ring in web)


def lists_within(thing):
    """All lists that stand in a thing, itself among them, each as often as it stands there."""
    found = [thing] if isinstance(thing, list) else []
    if isinstance(thing, (list, tuple)):
        for part in thing:
            found += lists_within(part)
    return found
