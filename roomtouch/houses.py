"""Houses: a floor that is changed by cuts and joins, which can be taken back."""

from roomtouch.errors import NoCut, NoDeed, NoName, NoRoom, TooMany, Twice
from roomtouch.touches import area, is_whole
from roomtouch.webs import MOST_ROOMS, is_name


def row_called(rows, room):
    """The row of a room; refuses with NoRoom, where there is no such room."""
    for row in rows:
        if row[0] == room:
            return row
    raise NoRoom("there is no room of this name")


def lies_between(at, low, high):
    """Whether a whole number lies between two others, both left out."""
    return is_whole(at) and low < at < high


def two_parts(row, name, way, at):
    """The rows of a room and of what is cut off it; refuses with NoCut, where at doesn't lie within the room."""
    room = row[0]
    left = row[1]
    bottom = row[2]
    right = row[3]
    top = row[4]
    if way == "up" and lies_between(at, bottom, top):
        return [(room, left, bottom, right, at), (name, left, at, right, top)]
    if way == "on" and lies_between(at, left, right):
        return [(room, left, bottom, at, top), (name, at, bottom, right, top)]
    raise NoCut("the room can't be cut there")


def both_together(row, other):
    """The row of a room that has its own oblong and another's; refuses with NoCut, where these are no oblong."""
    left = min(row[1], other[1])
    bottom = min(row[2], other[2])
    right = max(row[3], other[3])
    top = max(row[4], other[4])
    whole = (row[0], left, bottom, right, top)
    # Two rooms of a floor fill the oblong round both just where the areas add up, and a room with itself never does.
    if area(whole) != area(row) + area(other):
        raise NoCut("the two are no oblong together")
    return whole


class House:
    """A house: its floor, and the floors ahead of each deed that is not taken back."""

    def __init__(self, room, width, height):
        self.rows = [(room, 0, 0, width, height)]
        self.past = []

    def change_to(self, rows):
        """Have another floor from now on, by one deed more."""
        # A list of rows is never changed once it is kept, so the past and twins may share it.
        self.past.append(self.rows)
        self.rows = rows

    def cut(self, room, name, way, at):
        """Cut a room called name off a room: what is above at (way "up"), or to the right of it (way "on")."""
        row = row_called(self.rows, room)
        if not is_name(name):
            raise NoName("this is no name for a room")
        if name in [other[0] for other in self.rows]:
            raise Twice("there is a room of this name")
        parts = two_parts(row, name, way, at)
        if len(self.rows) == MOST_ROOMS:
            raise TooMany("there are as many rooms as can be")
        self.change_to([other for other in self.rows if other != row] + parts)

    def join(self, room, other):
        """Let a room have the oblong of another too, which goes."""
        row = row_called(self.rows, room)
        gone = row_called(self.rows, other)
        whole = both_together(row, gone)
        self.change_to([kept for kept in self.rows if kept != row and kept != gone] + [whole])

    def back(self):
        """Take back the last deed that is not taken back."""
        if self.past == []:
            raise NoDeed("there is no deed to take back")
        self.rows = self.past.pop()

    def floor(self):
        """The floor of the house, in order."""
        return sorted(self.rows)

    def deeds(self):
        """How many deeds are done and not taken back."""
        return len(self.past)

    def twin(self):
        """Another house that is alike, with its deeds."""
        made = House("twin", 1, 1)
        made.rows = self.rows
        made.past = list(self.past)
        return made
