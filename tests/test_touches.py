"""Point 11: the web of a floor, NoFloor and Meeting; with points 2 and 3."""

import copy
import itertools
import unittest

import samples
from roomtouch import errors
from roomtouch.floors import is_floor
from roomtouch.touches import all_touching, web_of
from roomtouch.webs import must_web

WHIRL_FLOOR = [("a", 0, 2, 2, 3), ("b", 2, 1, 3, 3), ("c", 1, 0, 3, 1), ("d", 0, 0, 1, 2), ("e", 1, 1, 2, 2)]
CROSS = [("a", 0, 1, 1, 2), ("b", 1, 1, 2, 2), ("c", 1, 0, 2, 1), ("d", 0, 0, 1, 1)]


class TouchCase(unittest.TestCase):
    def told(self, rows, known):
        before = copy.deepcopy(rows)
        self.assertEqual(web_of(rows), known)
        self.assertEqual(rows, before)

    def refused(self, rows, error):
        before = copy.deepcopy(rows)
        with self.assertRaises(errors.TouchError, msg=repr(rows)) as taken:
            web_of(rows)
        self.assertIs(taken.exception.__class__, error, rows)
        self.assertEqual(rows, before)


class WebOf(TouchCase):
    def test_one_room(self):
        for width, height in [(1, 1), (7, 2), (10**30 - 1, 1), (10**30 - 1, 10**30 - 1)]:
            self.told([("a", 0, 0, width, height)], [("a", ["east", "south", "west", "north"])])
            self.told([("zz", 0, 0, width, height)], [("zz", ["east", "south", "west", "north"])])

    def test_two_rooms(self):
        side = [("a", ["b", "south", "west", "north"]), ("b", ["a", "north", "east", "south"])]
        self.told([("a", 0, 0, 1, 1), ("b", 1, 0, 2, 1)], side)
        stack = [("a", ["b", "west", "north", "east"]), ("b", ["a", "east", "south", "west"])]
        self.told([("a", 0, 1, 1, 2), ("b", 0, 0, 1, 1)], stack)

    def test_a_ring_begins_with_its_first_name_be_it_a_wall(self):
        floor = [("zz", 0, 0, 1, 1), ("oak", 1, 0, 2, 1)]
        known = [("oak", ["east", "south", "zz", "north"]), ("zz", ["north", "oak", "south", "west"])]
        self.told(floor, known)
        self.told(floor[::-1], known)

    def test_clockwise_with_several_on_each_side(self):
        floor = [
            ("a", 0, 4, 2, 6),
            ("b", 2, 4, 6, 6),
            ("c", 5, 2, 6, 4),
            ("d", 5, 0, 6, 2),
            ("e", 0, 0, 5, 1),
            ("f", 0, 1, 1, 3),
            ("g", 0, 3, 1, 4),
            ("m", 1, 1, 5, 4),
        ]
        self.assertEqual(dict(web_of(floor))["m"], ["a", "b", "c", "d", "e", "f", "g"])
        names = "opqrstu"
        for k in range(7):
            rows = samples.renamed(floor[:7], names[k:] + names[:k]) + [("z",) + floor[7][1:]]
            self.assertEqual(dict(web_of(rows))["z"], list(names))

    def test_whirl_in_any_order(self):
        known = samples.web_in_order(samples.WHIRL)
        for rows in itertools.permutations(WHIRL_FLOOR):
            self.told(list(rows), known)

    def test_all_floors_with_small_numbers(self):
        for count, most in [(1, 3), (2, 4), (3, 4), (4, 4), (5, 3)]:
            for width, height in itertools.product(range(1, most + 1), repeat=2):
                for floor in samples.floors_within(width, height, count):
                    if samples.four_meet(floor):
                        self.refused(floor, errors.Meeting)
                    else:
                        told = web_of(floor)
                        self.assertEqual(told, samples.web_in_order(samples.web_of_floor(floor)))
                        self.assertEqual(samples.broken(told), [])
                        self.assertIs(must_web(told), None)
                        self.assertIs(is_floor(told, floor), True)

    def test_great_floors_of_eight_rooms(self):
        for seed in range(60):
            floor = samples.cut_floor(8, seed)
            known = samples.web_in_order(samples.web_of_floor(floor))
            self.told(floor, known)
            self.told([(r[0],) + tuple(number * 10**26 for number in r[1:]) for r in floor[::-1]], known)
            self.assertEqual(samples.broken(known), [])
        self.told(samples.GREAT_FLOOR[::-1], samples.web_in_order(samples.web_of_floor(samples.GREAT_FLOOR)))

    def test_what_is_told_is_the_askers_own(self):
        told = web_of(WHIRL_FLOOR)
        known = copy.deepcopy(told)
        lists = samples.lists_within(told)
        self.assertEqual(len({id(thing) for thing in lists}), len(lists))
        for thing in lists:
            thing.clear()
        self.assertEqual(web_of(WHIRL_FLOOR), known)


class NoFloors(TouchCase):
    def test_no_tuples_and_too_many(self):
        self.refused([], errors.NoFloor)
        self.refused([(name, k, 0, k + 1, 1) for k, name in enumerate("abcdefghi")], errors.NoFloor)
        self.assertEqual(len(web_of([(name, k, 0, k + 1, 1) for k, name in enumerate("abcdefgh")])), 8)
        self.refused([("a" * (k % 8 + 1), k, 0, k + 1, 1) for k in range(200)], errors.NoFloor)

    def test_names_that_are_none(self):
        for name in ["", "A", "a1", "a b", "abcdefghi", "north", "east", "south", "west", "a\n", "~", "x" * 20000]:
            self.refused([(name, 0, 0, 1, 1)], errors.NoFloor)
            self.refused([("a", 0, 0, 1, 1), (name, 1, 0, 2, 1)], errors.NoFloor)
        for name in ["a", "abcdefgh", "zzzzzzzz", "norths", "up"]:
            self.assertEqual(web_of([(name, 0, 0, 1, 1)])[0][0], name)

    def test_a_name_twice(self):
        self.refused([("a", 0, 0, 1, 1), ("a", 1, 0, 2, 1)], errors.NoFloor)
        self.refused([("a", 0, 0, 1, 1), ("a", 0, 0, 1, 1)], errors.NoFloor)

    def test_numbers_that_are_of_no_oblong(self):
        for numbers in itertools.product(range(-1, 3), repeat=4):
            rows = [("a",) + numbers]
            if samples.is_any_floor_by_the_words(rows):
                self.told(rows, [("a", ["east", "south", "west", "north"])])
            else:
                self.refused(rows, errors.NoFloor)

    def test_truths_are_no_numbers(self):
        self.refused([("a", False, False, True, True)], errors.NoFloor)
        for place in range(1, 5):
            row = ("a", 0, 0, 1, 1)
            self.refused([row[:place] + (row[place] == 1,) + row[place + 1 :]], errors.NoFloor)

    def test_holes_rooms_over_one_another_off_the_corner(self):
        self.refused(WHIRL_FLOOR[:4], errors.NoFloor)
        self.refused([("a", 0, 0, 2, 1), ("b", 1, 0, 3, 1)], errors.NoFloor)
        self.refused([("a", 0, 0, 2, 2), ("b", 1, 0, 3, 1)], errors.NoFloor)
        self.refused([("a", 1, 0, 2, 1)], errors.NoFloor)
        self.refused([("a", 0, 0, 10**30 - 2, 1), ("b", 10**30 - 1, 0, 10**30, 1)], errors.NoFloor)

    def test_all_tuples_of_two_rooms_with_small_numbers(self):
        for numbers in itertools.product(range(3), repeat=8):
            rows = [("a",) + numbers[:4], ("b",) + numbers[4:]]
            if not samples.is_any_floor_by_the_words(rows):
                self.refused(rows, errors.NoFloor)


class Meetings(TouchCase):
    def test_four_rooms_that_meet(self):
        for rows in itertools.permutations(CROSS):
            self.refused(list(rows), errors.Meeting)
        self.refused([(r[0],) + tuple(number * (10**29 + 3) for number in r[1:]) for r in CROSS], errors.Meeting)

    def test_four_of_eight(self):
        rows = [("a", 0, 0, 5, 1), ("b", 0, 3, 5, 4), ("c", 0, 1, 1, 3), ("d", 4, 1, 5, 3)]
        rows += [("e", 1, 1, 2, 2), ("f", 2, 1, 4, 2), ("g", 1, 2, 2, 3), ("h", 2, 2, 4, 3)]
        self.refused(rows, errors.Meeting)
        self.refused(rows[::-1], errors.Meeting)

    def test_rooms_that_share_a_corner_alone_do_not_touch(self):
        known = {
            "a": [("north", "north"), ("east", "b"), ("south", "d"), ("west", "west")],
            "b": [("north", "north"), ("east", "east"), ("south", "c"), ("west", "a")],
            "c": [("north", "b"), ("east", "east"), ("south", "south"), ("west", "d")],
            "d": [("north", "a"), ("east", "c"), ("south", "south"), ("west", "west")],
        }
        self.assertEqual(all_touching(CROSS), known)

    def test_three_at_a_spot_are_no_meeting(self):
        self.assertEqual(len(web_of([("a", 0, 1, 2, 2), ("b", 0, 0, 1, 1), ("c", 1, 0, 2, 1)])), 3)

    def test_no_floor_comes_first(self):
        self.refused(CROSS + [("e", 3, 0, 4, 2)], errors.NoFloor)
        self.refused(CROSS[:3] + [("a", 0, 0, 1, 1)], errors.NoFloor)
        self.refused([(r[0], r[1] + 1, r[2], r[3] + 1, r[4]) for r in CROSS], errors.NoFloor)
        self.refused(CROSS + [(name, k, 0, k + 1, 2) for k, name in zip(range(2, 7), "efghi")], errors.NoFloor)


if __name__ == "__main__":
    unittest.main()
