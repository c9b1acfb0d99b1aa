"""Point 12: a house, its deeds, and each refusal; with point 2."""

import itertools
import unittest

import samples
from roomtouch import errors
from roomtouch.floors import is_floor
from roomtouch.houses import House
from roomtouch.touches import web_of

THIRTY = 10**30 - 1


def crossed():
    """A house of four rooms that meet: c above a, d above b."""
    house = House("a", 6, 4)
    house.cut("a", "b", "on", 2)
    house.cut("a", "c", "up", 3)
    house.cut("b", "d", "up", 3)
    return house


def strip(count):
    """A house of so many rooms side by side, each ten wide and ten high."""
    house = House("a", 10 * count, 10)
    for k in range(1, count):
        house.cut("abcdefgh"[k - 1], "abcdefgh"[k], "on", 10 * k)
    return house


class HouseCase(unittest.TestCase):
    def refused(self, house, error, deed, *given):
        floor, deeds = house.floor(), house.deeds()
        with self.assertRaises(errors.TouchError, msg=repr(given)) as taken:
            deed(*given)
        self.assertIs(taken.exception.__class__, error, given)
        self.assertEqual((house.floor(), house.deeds()), (floor, deeds))


class Made(HouseCase):
    def test_one_room_fills_the_oblong(self):
        for room, width, height in [("a", 1, 1), ("kitchen", 7, 3), ("abcdefgh", THIRTY, 1), ("z", 1, THIRTY)]:
            house = House(room, width, height)
            self.assertEqual(house.floor(), [(room, 0, 0, width, height)])
            self.assertEqual(house.deeds(), 0)

    def test_the_arguments_have_their_names(self):
        house = House(room="a", width=4, height=2)
        self.assertIsNone(house.cut(room="a", name="b", way="on", at=1))
        self.assertIsNone(house.join(room="b", other="a"))
        self.assertEqual(house.floor(), [("b", 0, 0, 4, 2)])

    def test_deeds_tell_none(self):
        house = House("a", 4, 4)
        self.assertIsNone(house.cut("a", "b", "up", 2))
        self.assertIsNone(house.join("a", "b"))
        self.assertIsNone(house.back())


class Cuts(HouseCase):
    def test_by_both_ways(self):
        house = House("a", 5, 3)
        house.cut("a", "b", "up", 1)
        self.assertEqual(house.floor(), [("a", 0, 0, 5, 1), ("b", 0, 1, 5, 3)])
        house.cut("b", "c", "on", 4)
        self.assertEqual(house.floor(), [("a", 0, 0, 5, 1), ("b", 0, 1, 4, 3), ("c", 4, 1, 5, 3)])
        house.cut("c", "aa", "up", 2)
        known = [("a", 0, 0, 5, 1), ("aa", 4, 2, 5, 3), ("b", 0, 1, 4, 3), ("c", 4, 1, 5, 2)]
        self.assertEqual(house.floor(), known)
        self.assertEqual(house.deeds(), 3)

    def test_at_the_edges_and_just_within(self):
        for at in range(-3, 12):
            for way, low, high in [("on", 2, 6), ("up", 3, 8)]:
                house = House("x", 6, 8)
                house.cut("x", "y", "on", 2)
                house.cut("y", "z", "up", 3)
                if low < at < high:
                    house.cut("z", "w", way, at)
                    cut_off = ("w", 2, at, 6, 8) if way == "up" else ("w", at, 3, 6, 8)
                    kept = ("z", 2, 3, 6, at) if way == "up" else ("z", 2, 3, at, 8)
                    self.assertEqual(house.floor(), [cut_off, ("x", 0, 0, 2, 8), ("y", 2, 0, 6, 3), kept])
                    self.assertEqual(house.deeds(), 3)
                else:
                    self.refused(house, errors.NoCut, house.cut, "z", "w", way, at)

    def test_width_and_height_of_one_can_not_be_cut(self):
        house = House("a", 1, 1)
        for way, at in itertools.product(["up", "on"], [-1, 0, 1, 2]):
            self.refused(house, errors.NoCut, house.cut, "a", "b", way, at)

    def test_great_numbers(self):
        for way in ["up", "on"]:
            for at in [0, -1, THIRTY, THIRTY + 1, -THIRTY]:
                house = House("a", THIRTY, THIRTY)
                self.refused(house, errors.NoCut, house.cut, "a", "b", way, at)
            for at in [1, THIRTY - 1, 10**29]:
                house = House("a", THIRTY, THIRTY)
                house.cut("a", "b", way, at)
                self.assertEqual(house.floor()[1][3:], (THIRTY, THIRTY))
                self.assertEqual(house.floor()[0][4 if way == "up" else 3], at)

    def test_a_truth_is_no_number_to_cut_at(self):
        house = House("a", 4, 4)
        for way in ["up", "on"]:
            self.refused(house, errors.NoCut, house.cut, "a", "b", way, True)

    def test_no_room(self):
        house = House("a", 4, 4)
        for room in ["b", "A", "", "north", "aa", "a "]:
            self.refused(house, errors.NoRoom, house.cut, room, "c", "up", 2)

    def test_no_name(self):
        house = House("a", 4, 4)
        for name in ["", "B", "b1", "b c", "abcdefghi", "north", "east", "south", "west", "b\n", "x" * 20000]:
            self.refused(house, errors.NoName, house.cut, "a", name, "up", 2)

    def test_twice(self):
        house = crossed()
        for room, name in itertools.product("abcd", repeat=2):
            self.refused(house, errors.Twice, house.cut, room, name, "on", 1)

    def test_too_many(self):
        house = strip(8)
        for k, room in enumerate("abcdefgh"):
            self.refused(house, errors.TooMany, house.cut, room, "i", "on", 10 * k + 5)
            self.refused(house, errors.TooMany, house.cut, room, "i", "up", 5)
        house.join("a", "b")
        house.cut("a", "i", "up", 5)
        self.assertEqual(len(house.floor()), 8)
        self.refused(house, errors.TooMany, house.cut, "a", "b", "on", 5)
        house.back()
        house.cut("a", "b", "up", 9)
        self.assertEqual(len(house.floor()), 8)

    def test_two_reasons_at_once(self):
        reasons = [errors.NoRoom, errors.NoName, errors.Twice, errors.NoCut, errors.TooMany]
        good = {"room": "a", "name": "i", "at": 5}
        wrong = [{"room": "q"}, {"name": "Q"}, {"name": "b"}, {"at": 0}, {}]
        for count in (7, 8):
            for some in itertools.product([False, True], repeat=4):
                if some[1] and some[2]:
                    continue
                given = dict(good)
                for bad, change in zip(some, wrong):
                    given.update(change if bad else {})
                told = [reason for bad, reason in zip(some + (count == 8,), reasons) if bad]
                house = strip(count)
                for way in ["up", "on"]:
                    if told:
                        self.refused(house, told[0], house.cut, given["room"], given["name"], way, given["at"])
                    else:
                        house.cut(given["room"], given["name"], way, given["at"])
                        house.back()

    def test_no_room_comes_ahead_of_a_name_that_is_none_and_twice(self):
        house = crossed()
        self.refused(house, errors.NoRoom, house.cut, "north", "north", "up", 1)
        self.refused(house, errors.NoRoom, house.cut, "q", "a", "up", 1)


class Joins(HouseCase):
    def test_side_by_side(self):
        for room, other in [("a", "b"), ("b", "a")]:
            house = House("a", 5, 3)
            house.cut("a", "b", "on", 2)
            house.join(room, other)
            self.assertEqual(house.floor(), [(room, 0, 0, 5, 3)])
            self.assertEqual(house.deeds(), 2)

    def test_above_one_another(self):
        for room, other in [("a", "b"), ("b", "a")]:
            house = House("a", 5, 3)
            house.cut("a", "b", "up", 2)
            house.join(room, other)
            self.assertEqual(house.floor(), [(room, 0, 0, 5, 3)])

    def test_the_others_stay(self):
        house = crossed()
        house.join("d", "c")
        self.assertEqual(house.floor(), [("a", 0, 0, 2, 3), ("b", 2, 0, 6, 3), ("d", 0, 3, 6, 4)])
        house.join("a", "b")
        self.assertEqual(house.floor(), [("a", 0, 0, 6, 3), ("d", 0, 3, 6, 4)])

    def test_no_oblong_together(self):
        house = crossed()
        for room, other in [("a", "d"), ("d", "a"), ("b", "c"), ("c", "b")]:
            self.refused(house, errors.NoCut, house.join, room, other)
        house.join("c", "d")
        for room, other in [("a", "c"), ("c", "a"), ("b", "c"), ("c", "b")]:
            self.refused(house, errors.NoCut, house.join, room, other)

    def test_rooms_apart(self):
        house = strip(4)
        for room, other in itertools.permutations("abcd", 2):
            if abs(ord(room) - ord(other)) > 1:
                self.refused(house, errors.NoCut, house.join, room, other)
        pile = House("a", 3, 9)
        pile.cut("a", "b", "up", 3)
        pile.cut("b", "c", "up", 6)
        self.refused(pile, errors.NoCut, pile.join, "a", "c")
        self.refused(pile, errors.NoCut, pile.join, "c", "a")

    def test_a_room_with_itself(self):
        house = crossed()
        for room in "abcd":
            self.refused(house, errors.NoCut, house.join, room, room)
        alone = House("a", 1, 1)
        self.refused(alone, errors.NoCut, alone.join, "a", "a")

    def test_no_room(self):
        house = crossed()
        for room in ["q", "", "A", "north"]:
            self.refused(house, errors.NoRoom, house.join, room, "a")
            self.refused(house, errors.NoRoom, house.join, "a", room)
            self.refused(house, errors.NoRoom, house.join, room, room)

    def test_a_room_that_went_is_gone_and_its_name_is_free(self):
        house = crossed()
        house.join("a", "b")
        self.refused(house, errors.NoRoom, house.cut, "b", "e", "on", 3)
        self.refused(house, errors.NoRoom, house.join, "c", "b")
        house.cut("a", "b", "up", 1)
        self.assertEqual(house.floor()[:2], [("a", 0, 0, 6, 1), ("b", 0, 1, 6, 3)])

    def test_all_pairs_of_whirls(self):
        # Made by joins: the ways of cutting alone make no whirl. No two rooms of it are an oblong together.
        house = House("a", 3, 3)
        house.cut("a", "f", "on", 2)
        house.cut("a", "e", "on", 1)
        house.cut("e", "b", "up", 2)
        house.cut("a", "d", "up", 2)
        house.join("b", "d")
        house.cut("e", "g", "up", 1)
        house.cut("f", "h", "up", 1)
        house.join("e", "f")
        known = [("a", 0, 0, 1, 2), ("b", 0, 2, 2, 3), ("e", 1, 0, 3, 1), ("g", 1, 1, 2, 2), ("h", 2, 1, 3, 3)]
        self.assertEqual(house.floor(), known)
        for room, other in itertools.product("abegh", repeat=2):
            self.refused(house, errors.NoCut, house.join, room, other)


class Backs(HouseCase):
    def test_no_deed(self):
        house = House("a", 4, 4)
        self.refused(house, errors.NoDeed, house.back)
        house.cut("a", "b", "up", 2)
        house.back()
        self.refused(house, errors.NoDeed, house.back)
        self.assertEqual(house.floor(), [("a", 0, 0, 4, 4)])

    def test_one_behind_the_other_up_to_the_first(self):
        house = House("a", 6, 4)
        past = []
        for deed in [
            lambda: house.cut("a", "b", "on", 2),
            lambda: house.cut("a", "c", "up", 3),
            lambda: house.cut("b", "d", "up", 3),
            lambda: house.join("d", "c"),
            lambda: house.join("b", "a"),
            lambda: house.cut("d", "a", "on", 5),
        ]:
            past.append(house.floor())
            deed()
            self.assertEqual(house.deeds(), len(past))
        while past:
            house.back()
            self.assertEqual(house.floor(), past.pop())
            self.assertEqual(house.deeds(), len(past))
        self.refused(house, errors.NoDeed, house.back)

    def test_cuts_behind_backs(self):
        house = crossed()
        house.back()
        house.back()
        self.assertEqual(house.deeds(), 1)
        house.cut("b", "z", "up", 1)
        self.assertEqual(house.floor(), [("a", 0, 0, 2, 4), ("b", 2, 0, 6, 1), ("z", 2, 1, 6, 4)])
        self.assertEqual(house.deeds(), 2)
        house.back()
        self.assertEqual(house.floor(), [("a", 0, 0, 2, 4), ("b", 2, 0, 6, 4)])
        house.back()
        self.assertEqual(house.floor(), [("a", 0, 0, 6, 4)])

    def test_a_refused_deed_is_not_taken_back(self):
        house = House("a", 6, 4)
        house.cut("a", "b", "on", 2)
        self.refused(house, errors.NoCut, house.cut, "a", "c", "on", 2)
        self.refused(house, errors.NoRoom, house.join, "a", "c")
        house.back()
        self.assertEqual(house.floor(), [("a", 0, 0, 6, 4)])
        self.refused(house, errors.NoDeed, house.back)

    def test_many_deeds(self):
        house = House("a", 10, 10)
        for k in range(600):
            house.cut("a", "b", "up", 1 + k % 9)
            house.join("a", "b")
        self.assertEqual(house.deeds(), 1200)
        house.back()
        self.assertEqual(house.floor()[0], ("a", 0, 0, 10, 1 + 599 % 9))
        for k in range(1199):
            house.back()
        self.assertEqual((house.floor(), house.deeds()), ([("a", 0, 0, 10, 10)], 0))


class Twins(HouseCase):
    def test_alike_with_its_deeds(self):
        house = crossed()
        twin = house.twin()
        self.assertIsInstance(twin, House)
        self.assertIsNot(twin, house)
        self.assertEqual((twin.floor(), twin.deeds()), (house.floor(), 3))
        for k in range(3):
            house.back()
            twin.back()
            self.assertEqual((twin.floor(), twin.deeds()), (house.floor(), house.deeds()))
        self.refused(twin, errors.NoDeed, twin.back)

    def test_they_go_their_own_ways(self):
        house = crossed()
        twin = house.twin()
        known = house.floor()
        twin.cut("a", "e", "on", 1)
        self.assertEqual((house.floor(), house.deeds()), (known, 3))
        house.join("c", "d")
        house.back()
        house.back()
        self.assertEqual((twin.floor()[4], twin.deeds()), (("e", 1, 0, 2, 3), 4))
        twin.back()
        self.assertEqual((twin.floor(), twin.deeds()), (known, 3))
        twin.back()
        twin.back()
        twin.back()
        self.assertEqual(twin.floor(), [("a", 0, 0, 6, 4)])
        self.assertEqual(house.deeds(), 2)

    def test_of_a_new_house_and_of_a_twin(self):
        house = House("hall", 3, 2)
        twin = house.twin().twin()
        self.assertEqual((twin.floor(), twin.deeds()), ([("hall", 0, 0, 3, 2)], 0))
        self.refused(twin, errors.NoDeed, twin.back)
        twin.cut("hall", "b", "up", 1)
        self.assertEqual(house.floor(), [("hall", 0, 0, 3, 2)])


class AskersOwn(HouseCase):
    def test_what_floor_told_is_the_askers_own(self):
        house = crossed()
        told = house.floor()
        known = list(told)
        twin = house.twin()
        told.clear()
        self.assertEqual(house.floor(), known)
        self.assertEqual(twin.floor(), known)
        told = house.floor()
        house.join("a", "b")
        self.assertEqual(told, known)
        house.back()
        house.floor().append("gone")
        self.assertEqual(house.floor(), known)
        self.assertIsNot(house.floor(), house.floor())
        house.back()
        first = House("a", 2, 2)
        first.floor().clear()
        self.assertEqual(first.floor(), [("a", 0, 0, 2, 2)])

    def test_the_numbers_are_whole(self):
        for row in crossed().floor():
            self.assertIs(row.__class__, tuple)
            self.assertEqual({number.__class__ for number in row[1:]}, {int})
        self.assertIs(crossed().deeds().__class__, int)


def fields(floor):
    """The name that each field of one by one lies in."""
    found = {}
    for room, left, bottom, right, top in floor:
        for spot in itertools.product(range(left, right), range(bottom, top)):
            found[spot] = room
    return found


def cut_by_fields(found, room, name, way, at):
    """The names of the fields behind a cut, or the refusal."""
    mine = [spot for spot in found if found[spot] == room]
    above = [spot for spot in mine if spot[1 if way == "up" else 0] >= at]
    if not mine:
        return errors.NoRoom
    if name in samples.WALLS or not name.islower():
        return errors.NoName
    if name in found.values():
        return errors.Twice
    if not above or len(above) == len(mine):
        return errors.NoCut
    if len(set(found.values())) == 8:
        return errors.TooMany
    return {**found, **{spot: name for spot in above}}


def join_by_fields(found, room, other):
    """The names of the fields behind a join, or the refusal."""
    if room not in found.values() or other not in found.values():
        return errors.NoRoom
    both = [spot for spot in found if found[spot] in (room, other)]
    wide = {spot[0] for spot in both}
    high = {spot[1] for spot in both}
    if room == other or len(both) != len(wide) * len(high):
        return errors.NoCut
    return {spot: room if found[spot] == other else found[spot] for spot in found}


class ManyDeeds(HouseCase):
    def test_held_against_fields(self):
        names = ["a", "b", "c", "d", "e", "f", "g", "h", "i", "Q", "west"]
        for seed in range(30):
            steps = samples.steps_from(seed)
            house = House("a", 7, 6)
            past = [fields(house.floor())]
            for _ in range(120):
                picked = next(steps) % 10
                room, name = names[next(steps) % len(names)], names[next(steps) % len(names)]
                way, at = ["up", "on"][next(steps) % 2], next(steps) % 9 - 1
                if picked < 6:
                    deed, given, known = house.cut, (room, name, way, at), cut_by_fields(past[-1], room, name, way, at)
                elif picked < 9:
                    deed, given, known = house.join, (room, name), join_by_fields(past[-1], room, name)
                else:
                    deed, given, known = house.back, (), past[-2] if past[1:] else errors.NoDeed
                if isinstance(known, dict):
                    deed(*given)
                    past = past[:-1] if deed == house.back else past + [known]
                else:
                    self.refused(house, known, deed, *given)
                self.assertEqual(fields(house.floor()), past[-1])
                self.assertEqual(house.deeds(), len(past) - 1)
                self.assertEqual(house.floor(), sorted(house.floor()))
                self.assertTrue(samples.is_any_floor_by_the_words(house.floor()))

    def test_a_floor_of_a_house_is_a_floor_of_its_web(self):
        for count in range(1, 9):
            floor = strip(count).floor()
            self.assertIs(is_floor(web_of(floor), floor), True)
        with self.assertRaises(errors.Meeting):
            web_of(crossed().floor())


if __name__ == "__main__":
    unittest.main()
