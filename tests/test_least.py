"""Point 10: the tinting of a floor, and the least floor of a tinting, with wishes too; with points 2, 4 and 6."""

import ast
import copy
import itertools
import unittest

import samples
from roomtouch import errors
from roomtouch.floors import is_floor, least_floor, tinting_of, wished
from roomtouch.tintings import tintings

GREAT = samples.web_of_floor(samples.GREAT_FLOOR)
SIDE_ROWS = [
    ("on", "a", "b"),
    ("on", "b", "east"),
    ("on", "west", "a"),
    ("up", "a", "north"),
    ("up", "b", "north"),
    ("up", "south", "a"),
    ("up", "south", "b"),
]
WEBS = [samples.ONE, samples.SIDE, samples.STACK, samples.THREE, samples.WHIRL, GREAT, samples.pile(8)]
NO_WEBS = [[], "", (), tuple(samples.ONE), [("north", ["east", "south", "west"])], samples.pile(9), [[]], [("a", "b")]]


def tints(webs):
    """Each web with each of its tintings."""
    return [(web, rows) for web in webs for rows in tintings(web)]


def by_tinting(count, most):
    """The floors with numbers up to most, with their webs and tintings."""
    found = samples.floors_by_tinting(count, most)
    return [(ast.literal_eval(web), ast.literal_eval(rows), floors) for (web, rows), floors in found.items()]


class TintingOf(unittest.TestCase):
    def told(self, web, floor, known):
        before = copy.deepcopy((web, floor))
        self.assertEqual(tinting_of(web, floor), known)
        self.assertEqual((web, floor), before)

    def refused(self, web, floor):
        before = copy.deepcopy((web, floor))
        with self.assertRaises(errors.NoFloor):
            tinting_of(web, floor)
        self.assertEqual((web, floor), before)

    def test_one_room_and_two(self):
        one = [("on", "a", "east"), ("on", "west", "a"), ("up", "a", "north"), ("up", "south", "a")]
        self.told(samples.ONE, [("a", 0, 0, 3, 2)], one)
        self.told(samples.SIDE, [("a", 0, 0, 1, 1), ("b", 1, 0, 9, 1)], SIDE_ROWS)

    def test_a_floor_in_any_order(self):
        floor = [("a", 0, 1, 2, 2), ("b", 0, 0, 1, 1), ("c", 1, 0, 2, 1)]
        known = samples.tinting_of_floor(floor)
        for rows in itertools.permutations(floor):
            self.told(samples.THREE, list(rows), known)
        for k in range(8):
            rows = samples.GREAT_FLOOR[k:] + samples.GREAT_FLOOR[:k]
            self.told(GREAT, rows, samples.tinting_of_floor(samples.GREAT_FLOOR))

    def test_all_floors_with_small_numbers(self):
        for count, most in [(1, 3), (2, 4), (3, 4), (4, 4)]:
            for web, rows, floors in by_tinting(count, most):
                self.assertIn(rows, tintings(web))
                for floor in floors:
                    self.assertEqual(tinting_of(web, floor), rows)

    def test_great_floors(self):
        for seed in range(40):
            floor = samples.cut_floor(8, seed)
            great = [(r[0],) + tuple(number * 10**26 for number in r[1:]) for r in floor]
            web = samples.web_of_floor(floor)
            self.told(web, great, samples.tinting_of_floor(floor))
            self.assertIn(tinting_of(web, great), tintings(web))

    def test_what_is_no_floor_of_the_web(self):
        self.refused(samples.ONE, [])
        self.refused(samples.ONE, [("a", 0, 0, True, 1)])
        self.refused(samples.ONE, [("b", 0, 0, 1, 1)])
        self.refused(samples.ONE, [("a", 1, 0, 2, 1)])
        self.refused(samples.ONE, [("a", 0, 0, 1, 1)] * 2)
        self.refused(samples.ONE, [("a", 0, 0, 1, 1)] * 200)
        self.refused(samples.SIDE, [("b", 0, 0, 1, 1), ("a", 1, 0, 2, 1)])
        self.refused(samples.SIDE, [("a", 0, 0, 1, 1), ("b", 2, 0, 3, 1)])
        self.refused(samples.STACK, [("a", 0, 0, 1, 1), ("b", 1, 0, 2, 1)])
        for web in [samples.SIDE, samples.WHIRL, GREAT]:
            self.refused(web, [("a", 0, 0, 1, 1)])
        for at in range(8):
            self.refused(GREAT, samples.GREAT_FLOOR[:at] + samples.GREAT_FLOOR[at + 1 :])

    def test_what_is_no_web_comes_first(self):
        for web in NO_WEBS:
            for floor in [[], [("a", 0, 0, 1, 1)]]:
                with self.assertRaises(errors.NoWeb):
                    tinting_of(web, floor)


class LeastFloor(unittest.TestCase):
    def told(self, web, tinting, known):
        before = copy.deepcopy((web, tinting))
        self.assertEqual(least_floor(web, tinting), known)
        self.assertEqual(wished(web, tinting, []), known)
        self.assertEqual((web, tinting), before)

    def test_small_webs(self):
        self.told(samples.ONE, tintings(samples.ONE)[0], [("a", 0, 0, 1, 1)])
        self.told(samples.SIDE, SIDE_ROWS, [("a", 0, 0, 1, 1), ("b", 1, 0, 2, 1)])
        self.told(samples.STACK, tintings(samples.STACK)[0], [("a", 0, 1, 1, 2), ("b", 0, 0, 1, 1)])
        three = [("a", 0, 1, 2, 2), ("b", 0, 0, 1, 1), ("c", 1, 0, 2, 1)]
        self.told(samples.THREE, tintings(samples.THREE)[0], three)

    def test_two_whirls(self):
        one = [("a", 0, 1, 1, 3), ("b", 1, 2, 3, 3), ("c", 2, 0, 3, 2), ("d", 0, 0, 2, 1), ("e", 1, 1, 2, 2)]
        other = [("a", 0, 2, 2, 3), ("b", 2, 1, 3, 3), ("c", 1, 0, 3, 1), ("d", 0, 0, 1, 2), ("e", 1, 1, 2, 2)]
        for rows, known in zip(tintings(samples.WHIRL), [one, other]):
            self.told(samples.WHIRL, rows, known)

    def test_rooms_that_are_not_tied_are_kept_apart(self):
        # Above a long wall lie a and b, beneath it c and d; a and c touch across it, so the walls behind differ.
        floor = [("a", 0, 1, 3, 2), ("b", 3, 1, 4, 2), ("c", 2, 0, 4, 1), ("d", 0, 0, 2, 1)]
        known = [("a", 0, 1, 2, 2), ("b", 2, 1, 3, 2), ("c", 1, 0, 3, 1), ("d", 0, 0, 1, 1)]
        web = samples.web_of_floor(floor)
        self.told(web, tinting_of(web, floor), known)

    def test_a_tinting_in_any_order_and_a_web_too(self):
        for web, rows in tints(WEBS):
            known = least_floor(web, rows)
            self.told(web, rows[::-1], known)
            self.told(web, rows[3:] + rows[:3], known)
            self.told([(room, ring[2:] + ring[:2]) for room, ring in web[::-1]], rows, known)

    def test_every_tinting_against_a_search_through_all_floors(self):
        # A floor of the search is least among all: what is less at any place is within the search too.
        for count, most, known in [(1, 3, 1), (2, 3, 2), (3, 4, 6), (4, 4, 24), (5, 5, 116)]:
            found = by_tinting(count, most)
            self.assertEqual(len(found), known)
            for web, rows, floors in found:
                least = samples.least_of(floors)
                self.assertIn(least, floors)
                self.assertEqual(least_floor(web, rows), least)

    def test_eight_rooms_against_walls_moved_step_by_step(self):
        for seed in range(60):
            floor = samples.cut_floor(8, seed)
            web = samples.web_of_floor(floor)
            for rows in tintings(web):
                told = least_floor(web, rows)
                self.assertTrue(samples.is_floor_by_the_words(web, told))
                self.assertEqual(samples.tinting_of_floor(told), rows)
                self.assertEqual(samples.shrunk(web, samples.ranked(told, 2), []), told)
            told = least_floor(web, samples.tinting_of_floor(floor))
            self.assertEqual(samples.shrunk(web, samples.ranked(floor, 3), []), told)

    def test_no_number_is_greater_than_in_other_floors(self):
        for seed in range(40):
            floor = sorted(samples.cut_floor(8, seed))
            web = samples.web_of_floor(floor)
            for row, other in zip(least_floor(web, tinting_of(web, floor)), floor):
                self.assertEqual(row[0], other[0])
                self.assertTrue(all(least <= number for least, number in zip(row[1:], other[1:])))

    def test_its_own_tinting_is_the_one_handed_in(self):
        for web, rows in tints(WEBS + samples.all_webs(4)):
            told = least_floor(web, rows)
            self.assertEqual(told, sorted(told))
            self.assertIs(is_floor(web, told), True)
            self.assertEqual(tinting_of(web, told), rows)
            self.assertEqual({number.__class__ for row in told for number in row[1:]}, {int})
            self.assertEqual({row.__class__ for row in told}, {tuple})


class Wished(unittest.TestCase):
    def told(self, web, tinting, sizes, known):
        before = copy.deepcopy((web, tinting, sizes))
        self.assertEqual(wished(web, tinting, sizes), known, sizes)
        self.assertEqual((web, tinting, sizes), before)

    def test_one_room(self):
        rows = tintings(samples.ONE)[0]
        for width, height in [(1, 1), (2, 1), (1, 7), (10**24, 10**25 - 1), (10**30 - 1, 10**30 - 1)]:
            self.told(samples.ONE, rows, [("a", width, height)], [("a", 0, 0, width, height)])

    def test_two_rooms(self):
        self.told(samples.SIDE, SIDE_ROWS, [("b", 5, 2)], [("a", 0, 0, 1, 2), ("b", 1, 0, 6, 2)])
        self.told(samples.SIDE, SIDE_ROWS, [("b", 5, 2), ("a", 3, 4)], [("a", 0, 0, 3, 4), ("b", 3, 0, 8, 4)])

    def test_width_and_height_are_not_mistaken(self):
        rows = tintings(samples.STACK)[0]
        self.told(samples.STACK, rows, [("a", 5, 2)], [("a", 0, 1, 5, 3), ("b", 0, 0, 5, 1)])

    def test_a_wish_that_the_least_floor_has(self):
        for web, rows in tints(WEBS):
            least = least_floor(web, rows)
            self.told(web, rows, [(r, z - x, t - y) for r, x, y, z, t in least], least)
            self.told(web, rows, [(r, 1, 1) for r, x, y, z, t in least], least)

    def test_in_any_order(self):
        for rows in tintings(samples.WHIRL):
            sizes = [("a", 2, 5), ("b", 1, 4), ("c", 9, 1), ("d", 3, 3), ("e", 4, 6)]
            known = wished(samples.WHIRL, rows, sizes)
            self.assertTrue(samples.fits_wishes(known, sizes))
            for some in itertools.permutations(sizes):
                self.told(samples.WHIRL, rows[::-1], list(some), known)

    def test_every_wish_of_small_webs_against_a_search(self):
        for count, most, great in [(1, 4, 4), (2, 6, 3), (3, 6, 2)]:
            for web, rows, floors in by_tinting(count, most):
                rooms = [room for room, _ in web]
                one = [()] + list(itertools.product(range(1, great + 1), repeat=2))
                for picked in itertools.product(one, repeat=count):
                    sizes = [(room,) + size for room, size in zip(rooms, picked) if size]
                    fitting = [floor for floor in floors if samples.fits_wishes(floor, sizes)]
                    least = samples.least_of(fitting)
                    self.assertIn(least, fitting)
                    self.assertEqual(wished(web, rows, sizes), least, sizes)

    def test_some_wishes_of_four_and_five_rooms_step_by_step(self):
        steps = samples.steps_from(5)
        for web, rows in tints(samples.all_webs(4) + samples.all_webs(5)[::5]):
            rooms = [room for room, _ in web]
            sizes = [(room, 1 + next(steps) % 4, 1 + next(steps) % 4) for room in rooms if next(steps) % 3]
            told = wished(web, rows, sizes)
            self.assertEqual(samples.shrunk(web, samples.ranked(least_floor(web, rows), 4), sizes), told)

    def test_some_wishes_of_eight_rooms_step_by_step(self):
        steps = samples.steps_from(8)
        for seed in range(30):
            web = samples.web_of_floor(samples.cut_floor(8, seed))
            for rows in tintings(web):
                sizes = [(room, 1 + next(steps) % 5, 1 + next(steps) % 5) for room, _ in web if next(steps) % 2]
                told = wished(web, rows, sizes)
                self.assertEqual(samples.shrunk(web, samples.ranked(least_floor(web, rows), 5), sizes), told)
                self.assertIs(is_floor(web, told), True)
                self.assertEqual(tinting_of(web, told), rows)

    def test_great_wishes(self):
        # Where no wall can be moved down by itself, the floor is the least.
        unit = 10**24
        steps = samples.steps_from(25)
        for web, rows in tints([samples.THREE, samples.WHIRL, GREAT, samples.pile(8)]):
            rooms = [room for room, _ in web]
            great = [(room, unit * (1 + next(steps) % 9), unit + next(steps)) for room in rooms]
            told = wished(web, rows, great)
            self.assertTrue(samples.is_floor_by_the_words(web, told))
            self.assertEqual(samples.tinting_of_floor(told), rows)
            self.assertTrue(samples.fits_wishes(told, great))
            for wall in samples.walls_of(told, 1) + samples.walls_of(told, 2):
                moved = samples.with_wall_moved(told, wall, -1)
                same = samples.is_floor_by_the_words(web, moved) and samples.tinting_of_floor(moved) == rows
                self.assertFalse(same and samples.fits_wishes(moved, great))

    def test_great_wishes_for_some_rooms(self):
        great = 10**25 - 1
        floor = [("a", 0, 1, great, 2), ("b", 0, 0, great - 1, 1), ("c", great - 1, 0, great, 1)]
        rows = tintings(samples.THREE)[0]
        self.told(samples.THREE, rows, [("b", great - 1, 1)], floor)
        self.told(samples.THREE, rows, [("a", great, 1)], [("a", 0, 1, great, 2), ("b", 0, 0, 1, 1), ("c", 1, 0, great, 1)])
        high = [("a", 0, 1, 2, great + 1), ("b", 0, 0, 1, 1), ("c", 1, 0, 2, 1)]
        self.told(samples.THREE, rows, [("a", 1, great)], high)
        pile = [(name, 0, 6 - k, great, 7 - k) for k, name in enumerate("bcdefgh")]
        known = [("a", 0, 7, great, great + 7)] + pile
        self.told(samples.pile(8), tintings(samples.pile(8))[0], [("a", great, great)], known)


class NoTintings(unittest.TestCase):
    def refused(self, web, tinting):
        before = copy.deepcopy((web, tinting))
        for ask in [least_floor, lambda web, rows: wished(web, rows, []), lambda web, rows: wished(web, rows, [("a", 2, 2)])]:
            with self.assertRaises(errors.NoTinting):
                ask(web, tinting)
        self.assertEqual((web, tinting), before)

    def test_no_tuples_one_less_one_more_one_twice(self):
        for web, rows in tints(WEBS):
            self.refused(web, [])
            self.refused(web, rows + rows[:1])
            self.refused(web, rows * 2)
            self.refused(web, rows + [("up", "south", "north")])
            for at in range(len(rows)):
                self.refused(web, rows[:at] + rows[at + 1 :])
                self.refused(web, rows[:at] + rows[at + 1 :] + [rows[at - 1]])

    def test_a_tie_turned_about_or_of_strange_words(self):
        for web, rows in tints(WEBS):
            for at, (way, one, other) in enumerate(rows):
                for row in [(way, other, one), ("down", one, other), (way, one, "q"), (way, "Q", other), ("", "", "")]:
                    self.refused(web, rows[:at] + [row] + rows[at + 1 :])

    def test_the_tinting_of_another_web(self):
        for web, rows in tints(WEBS):
            for other in WEBS:
                if other != web:
                    self.refused(other, rows)

    def test_a_web_that_is_barred_has_none(self):
        barred = [("a", ["north", "b", "east", "south", "west"]), ("b", ["north", "east", "a"])]
        loose = samples.wall_rows(barred)
        for row in samples.four_ways("a", "b"):
            self.refused(barred, loose + [row])

    def test_what_is_no_web_comes_first(self):
        for web in NO_WEBS:
            for rows in [[], SIDE_ROWS, [("up", "a", "b")]]:
                with self.assertRaises(errors.NoWeb):
                    least_floor(web, rows)
                with self.assertRaises(errors.NoWeb):
                    wished(web, rows, [])
                with self.assertRaises(errors.NoWeb):
                    wished(web, rows, [("a", 1, 1)])


if __name__ == "__main__":
    unittest.main()
