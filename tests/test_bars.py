"""Point 7: the threes that bar a floor."""

import copy
import unittest

import samples
from roomtouch.webs import bars, must_web

IN_ROOMS = [
    ("a", ["north", "east", "c", "d", "b", "west"]),
    ("b", ["a", "d", "c", "south", "west"]),
    ("c", ["a", "east", "south", "b", "d"]),
    ("d", ["a", "c", "b"]),
]
IN_ROOMS_AND_WALL = [
    ("a", ["north", "c", "b", "south", "west"]),
    ("b", ["north", "east", "south", "a", "c"]),
    ("c", ["north", "b", "a"]),
]
IN_ROOM_AND_WALLS = [("a", ["north", "b", "east", "south", "west"]), ("b", ["north", "east", "a"])]
SEVERAL = [
    ("p", ["north", "b", "east", "south", "zz", "west"]),
    ("b", ["north", "east", "p"]),
    ("zz", ["p", "south", "west"]),
]
# Within the three of p, north and east lies b, and within that of b, p and east lies c.
NESTED = [
    ("p", ["north", "b", "c", "east", "south", "west"]),
    ("b", ["north", "east", "c", "p"]),
    ("c", ["b", "east", "p"]),
]


class Bars(unittest.TestCase):
    def told(self, web, known):
        before = copy.deepcopy(web)
        self.assertEqual(bars(web), known)
        self.assertEqual(bars(web[::-1]), known)
        self.assertEqual(bars([(room, ring[1:] + ring[:1]) for room, ring in web]), known)
        self.assertEqual(web, before)

    def test_nothing_bars(self):
        great = samples.web_of_floor(samples.GREAT_FLOOR)
        for web in [samples.ONE, samples.SIDE, samples.STACK, samples.THREE, samples.WHIRL, samples.pile(8), great]:
            self.told(web, [])

    def test_a_room_shut_in_by_three_rooms(self):
        self.told(IN_ROOMS, [["a", "b", "c"]])

    def test_a_room_shut_in_by_two_rooms_and_a_wall(self):
        self.told(IN_ROOMS_AND_WALL, [["a", "b", "north"]])

    def test_a_room_shut_in_by_a_room_and_two_walls(self):
        self.told(IN_ROOM_AND_WALLS, [["a", "east", "north"]])

    def test_several_at_once(self):
        self.told(SEVERAL, [["east", "north", "p"], ["p", "south", "west"]])

    def test_one_within_another(self):
        self.told(NESTED, [["b", "east", "p"], ["east", "north", "p"]])

    def test_a_three_of_each_room_and_pair_of_walls(self):
        for k in range(4):
            wall, follower = samples.WALLS[k - 1], samples.WALLS[k]
            ring = list(samples.WALLS[k:] + samples.WALLS[:k])
            self.told([("a", ring + ["b"]), ("b", [wall, follower, "a"])], [sorted(["a", wall, follower])])

    def test_all_webs_of_up_to_five_rooms_by_the_words(self):
        for count in range(1, 6):
            for web in samples.all_webs(count):
                self.assertEqual(bars(web), samples.bars_by_the_words(web))

    def test_each_three_is_in_order_and_the_list_too(self):
        for web in samples.all_webs(5)[::7]:
            told = bars(web)
            self.assertEqual(told, sorted(told))
            for three in told:
                self.assertIsInstance(three, list)
                self.assertEqual(three, sorted(set(three)))
                self.assertEqual(len(three), 3)

    def test_what_is_told_is_the_askers_own(self):
        for web in [IN_ROOMS, SEVERAL, NESTED, samples.ONE]:
            told = bars(web)
            known = copy.deepcopy(told)
            self.assertEqual(len({id(three) for three in told}), len(told))
            later = bars(web)
            for three in told:
                three.append("gone")
            told.append("gone")
            self.assertEqual(later, known)
            self.assertEqual(bars(web), known)

    def test_what_is_handed_in_may_be_changed_afterwards(self):
        web = samples.copied(SEVERAL)
        told = bars(web)
        web[0][1].clear()
        web.clear()
        self.assertEqual(told, [["east", "north", "p"], ["p", "south", "west"]])

    def test_the_sample_webs_are_webs(self):
        for web in [IN_ROOMS, IN_ROOMS_AND_WALL, IN_ROOM_AND_WALLS, SEVERAL, NESTED]:
            self.assertEqual(samples.broken(web), [])
            self.assertIs(must_web(web), None)


if __name__ == "__main__":
    unittest.main()
