"""Points 5 and 6: names, and what a web is."""

import copy
import itertools
import unittest

import samples
from roomtouch import errors
from roomtouch.floors import is_floor, least_floor, tinting_of, wished
from roomtouch.texts import show_web
from roomtouch.tintings import is_tinting, tintings
from roomtouch.webs import bars, must_web

# Whatever else is handed in would be refused too, or told of as wrong: NoWeb comes first.
ASKED = [must_web, bars, tintings, show_web, lambda web: is_tinting(web, []), lambda web: is_floor(web, [])]
ASKED += [lambda web: tinting_of(web, []), lambda web: least_floor(web, []), lambda web: wished(web, [], [])]
OTHER_REFUSALS = ["NoTinting", "NoFloor", "Meeting", "NoRoom", "NoName", "Twice", "NoCut", "TooMany", "NoDeed", "NoText"]
NORTH, EAST, SOUTH, WEST = samples.WALLS


def called(name):
    """The web of one room that is called so."""
    return [(name, ["north", "east", "south", "west"])]


class WebCase(unittest.TestCase):
    def let_by(self, web):
        before = copy.deepcopy(web)
        self.assertIs(must_web(web), None)
        self.assertEqual(web, before)

    def refused(self, web):
        before = copy.deepcopy(web)
        for ask in ASKED:
            with self.assertRaises(errors.NoWeb, msg=repr(web)):
                ask(web)
        self.assertEqual(web, before)

    def broken_alone(self, web, condition):
        self.assertEqual(samples.broken(web), [condition])
        self.refused(web)


class Names(WebCase):
    def test_names_of_one_to_eight_small_letters(self):
        for name in ["a", "z", "az", "kitchen", "abcdefgh", "zzzzzzzz", "norths", "nort", "up", "on"]:
            self.let_by(called(name))

    def test_names_too_short_or_too_long(self):
        for name in ["", "abcdefghi", "a" * 20000]:
            self.refused(called(name))

    def test_names_with_other_signs(self):
        for name in ["A", "aB", "a1", "7", "a b", " a", "a ", "a_b", "a-b", "a\n", "`", "{", "a~", "@", "\u00e9", "\u00df"]:
            self.refused(called(name))

    def test_a_wall_is_no_room(self):
        for wall in samples.WALLS:
            self.refused(called(wall))
            self.refused([(wall, [name for name in samples.WALLS if name != wall])])
            self.refused([(wall, [name for name in samples.WALLS if name != wall] + ["a"])])

    def test_names_between_the_walls_names(self):
        self.let_by([("zz", ["north", "oak", "south", "west"]), ("oak", ["north", "east", "south", "zz"])])


class Form(WebCase):
    def test_one_to_eight_rooms(self):
        for count in range(1, 9):
            self.let_by(samples.pile(count))

    def test_no_room_and_nine(self):
        self.refused([])
        self.refused(samples.pile(9))
        self.refused(samples.pile(12))

    def test_a_room_twice(self):
        self.refused(samples.ONE + samples.ONE)
        self.refused(samples.SIDE + samples.SIDE[:1])
        self.refused(samples.SIDE + samples.SIDE[1:])

    def test_fewer_than_three_neighbours(self):
        for count in range(3):
            for few in itertools.permutations(samples.WALLS, count):
                self.refused([("a", list(few))])
        self.refused([("a", ["north", "east", "south", "b", "west"]), ("b", ["a", "west"])])

    def test_a_neighbour_twice(self):
        self.refused([("a", ["north", "east", "south", "west", "north"])])
        self.refused([("a", ["north", "north", "east", "south", "west"])])
        self.refused([("a", ["north", "b", "south", "b", "west"]), ("b", ["north", "east", "south", "a"])])

    def test_the_room_itself(self):
        self.refused([("a", ["north", "east", "south", "west", "a"])])
        self.refused([("a", ["north", "a", "b", "south", "west"]), ("b", ["north", "east", "south", "a"])])

    def test_a_name_that_is_no_room(self):
        for name in ["c", "A", "", "a b", "West"]:
            self.refused([("a", ["north", "east", "south", "west", name])])
            self.refused([("a", ["north", "b", "south", "west"]), ("b", ["north", "east", "south", name])])

    def test_a_ring_begun_elsewhere_is_the_same_web(self):
        for turns in itertools.product(range(4), range(4)):
            turned = [(room, ring[k:] + ring[:k]) for k, (room, ring) in zip(turns, samples.SIDE)]
            self.let_by(turned)
            self.assertEqual(bars(turned), [])
            self.assertEqual(tintings(turned), tintings(samples.SIDE))

    def test_rooms_in_another_order_are_the_same_web(self):
        told = tintings(samples.WHIRL)
        for web in itertools.permutations(samples.WHIRL):
            self.let_by(list(web))
            self.assertEqual(tintings(list(web)), told)


class NoLists(WebCase):
    def test_no_list_for_the_web(self):
        for thing in ["", "a", "north", (), tuple(samples.ONE), ("a", ["north", "east", "south", "west"])]:
            self.refused(thing)

    def test_no_tuple_of_two_for_a_room(self):
        ring = ["north", "east", "south", "west"]
        for thing in [[], "", "a", "ab", ["a", ring], (), ("a",), (ring,), ("a", ring, ring), ("a", "b", "c"), ring]:
            self.refused([thing])
            self.refused(samples.SIDE + [thing])
            self.refused([thing] + samples.SIDE)

    def test_no_list_for_the_neighbours(self):
        for thing in ["", "abc", "north", (), ("north", "east", "south", "west"), ("b", "c", "d")]:
            self.refused([("a", thing)])
            self.refused([("a", thing), samples.SIDE[1]])

    def test_no_text_for_a_room(self):
        for thing in [[], (), ["a"], ("a",), [[]], ("a", ["a"])]:
            self.refused([(thing, ["north", "east", "south", "west"])])
            self.refused([(thing, ["north", "b", "south", "west"]), samples.SIDE[1]])

    def test_no_text_for_a_neighbour(self):
        for thing in [[], (), ["north"], ("north",), [["north"]], ["b"], ("b", ["a"])]:
            self.refused([("a", [thing, "east", "south", "west"])])
            self.refused([("a", ["north", thing, "south", "west"]), samples.SIDE[1]])
            self.refused([("a", [thing] * 4)])

    def test_the_error_is_no_web_and_none_of_the_others(self):
        for ask in ASKED:
            with self.assertRaises(ValueError) as taken:
                ask([])
            self.assertIsInstance(taken.exception, errors.TouchError)
            self.assertIsInstance(taken.exception, errors.NoWeb)
            for name in OTHER_REFUSALS:
                self.assertNotIsInstance(taken.exception, getattr(errors, name))

    def test_no_web_comes_ahead_of_what_the_rows_are(self):
        rows = tintings(samples.ONE)[0]
        for web in [[], called("A"), called("north"), tuple(samples.ONE), samples.pile(9)]:
            for given in [rows, [], [("up", "a", "b")]]:
                with self.assertRaises(errors.NoWeb):
                    is_tinting(web, given)


class Conditions(WebCase):
    def test_webs_let_by(self):
        great = samples.web_of_floor(samples.GREAT_FLOOR)
        for web in [samples.ONE, samples.SIDE, samples.STACK, samples.THREE, samples.WHIRL, great]:
            self.assertEqual(samples.broken(web), [])
            self.let_by(web)

    def test_first_a_neighbour_that_has_not_the_room(self):
        # The second condition can't hold without the first, so the first can't be broken alone.
        web = samples.copied(samples.WHIRL)
        web[0][1].remove("e")
        self.assertIn(1, samples.broken(web))
        self.refused(web)
        web = [("a", ["north", "b", "east", "south", "west"]), ("b", ["north", "east", "south", "west"])]
        self.assertIn(1, samples.broken(web))
        self.refused(web)

    def test_second_a_ring_the_other_way_about(self):
        web = samples.copied(samples.WHIRL)
        web[4][1].reverse()
        self.broken_alone(web, 2)

    def test_second_two_neighbours_changed_about(self):
        for k in range(3):
            web = samples.copied(samples.WHIRL)
            ring = web[4][1]
            ring[k], ring[k + 1] = ring[k + 1], ring[k]
            self.assertIn(2, samples.broken(web))
            self.refused(web)

    def test_second_walls_out_of_their_order(self):
        for some in itertools.permutations(samples.WALLS[1:]):
            web = [("a", ["north"] + list(some))]
            if some == samples.WALLS[1:]:
                self.let_by(web)
            else:
                self.refused(web)
        for left_out in samples.WALLS:
            self.refused([("a", [wall for wall in samples.WALLS if wall != left_out])])

    def test_second_a_web_seen_in_a_mirror(self):
        for web in [samples.ONE, samples.SIDE, samples.STACK, samples.THREE, samples.WHIRL]:
            self.refused([(room, ring[::-1]) for room, ring in web])

    def test_third_two_rooms_at_one_corner(self):
        self.broken_alone(
            [
                ("a", [NORTH, EAST, SOUTH, WEST, "c", "d"]),
                ("b", [NORTH, EAST, SOUTH, WEST, "d", "c"]),
                ("c", [WEST, NORTH, "b", "d", "a"]),
                ("d", [WEST, NORTH, "a", "c", "b"]),
            ],
            3,
        )
        self.refused(called("a") + called("b"))

    def test_third_rooms_at_a_wall_that_are_not_come_to(self):
        self.broken_alone(
            samples.ONE
            + [
                ("b", [NORTH, "c", SOUTH, "d"]),
                ("c", [NORTH, "d", SOUTH, "b"]),
                ("d", [NORTH, "b", SOUTH, "c"]),
            ],
            3,
        )
        for wall in samples.WALLS:
            self.refused(samples.ONE + [("b", [wall, "c", "d"]), ("c", [wall, "d", "b"]), ("d", [wall, "b", "c"])])

    def test_third_no_room_at_a_corner(self):
        self.refused(
            [
                ("b", [NORTH, "c", SOUTH, "d"]),
                ("c", [NORTH, "d", SOUTH, "b"]),
                ("d", [NORTH, "b", SOUTH, "c"]),
            ]
        )

    def test_fourth_rooms_apart_from_the_walls(self):
        # Seven rooms, each tied to all the others, on a ring-shaped face of their own.
        apart = []
        for k in range(7):
            apart.append(("bcdefgh"[k], ["bcdefgh"[(k + step) % 7] for step in (1, 3, 2, 6, 4, 5)]))
        self.broken_alone(samples.ONE + apart, 4)

    def test_fourth_four_rooms_tied_to_each_other_alone(self):
        apart = [("b", ["c", "d", "e"]), ("c", ["b", "e", "d"]), ("d", ["b", "c", "e"]), ("e", ["b", "d", "c"])]
        self.assertEqual(samples.broken(samples.ONE + apart), [4, 5])
        self.refused(samples.ONE + apart)

    def test_fifth_a_web_that_can_not_be_drawn_without_crossings(self):
        # A board of three by four spots, closed at both pairs of edges; one field of it lies between the walls.
        names = {(0, 0): NORTH, (1, 0): EAST, (1, 1): SOUTH, (0, 1): WEST}
        spots = [(x, y) for x in range(3) for y in range(4)]
        for spot in [spot for spot in spots if spot not in names]:
            names[spot] = "abcdefgh"[len(names) - 4]
        steps = [(0, 1), (1, 1), (1, 0), (0, -1), (-1, -1), (-1, 0)]
        web = []
        for x, y in spots:
            if names[(x, y)] not in samples.WALLS:
                web.append((names[(x, y)], [names[((x + right) % 3, (y + up) % 4)] for right, up in steps]))
        self.assertEqual(len(web), 8)
        self.broken_alone(web, 5)


def rings_of(names):
    """All lists of three names or more, but for where they begin."""
    for count in range(3, len(names) + 1):
        for some in itertools.combinations(names, count):
            for rest in itertools.permutations(some[1:]):
                yield [some[0]] + list(rest)


class AllWebs(WebCase):
    def told(self, web):
        try:
            must_web(web)
        except errors.NoWeb:
            return False
        return True

    def test_all_that_two_rooms_can_be_tied_to(self):
        count = 0
        for one in rings_of(["north", "east", "south", "west", "b"]):
            for other in rings_of(["north", "east", "south", "west", "a"]):
                web = [("a", one), ("b", other)]
                self.assertEqual(self.told(web), samples.broken(web) == [], web)
                count += self.told(web)
        # Six webs but for the names, and each of them named in two ways.
        self.assertEqual(count, 12)

    def test_all_webs_of_up_to_five_rooms(self):
        # The counts are those of the ways to part a square into threes by inner spots, without a line across.
        for count, known in [(1, 1), (2, 6), (3, 36), (4, 228), (5, 1518)]:
            webs = samples.all_webs(count)
            self.assertEqual(len(webs), known)
            for web in webs:
                self.let_by(web)

    def test_two_names_of_a_ring_changed_about(self):
        for web in samples.all_webs(4):
            for k in range(4):
                changed = samples.copied(web)
                ring = changed[k][1]
                ring[0], ring[1] = ring[1], ring[0]
                self.assertEqual(self.told(changed), samples.broken(changed) == [], changed)

    def test_a_tie_taken_out_of_both_rings(self):
        for web in samples.all_webs(4):
            for room, name in samples.ties(web):
                changed = dict(samples.copied(web))
                changed[room].remove(name)
                if name in changed:
                    changed[name].remove(room)
                self.refused(list(changed.items()))


if __name__ == "__main__":
    unittest.main()
