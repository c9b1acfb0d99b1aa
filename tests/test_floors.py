"""Point 9: what a floor is, and a floor of a web; with points 2 and 6."""

import copy
import itertools
import unittest

import samples
from roomtouch import errors
from roomtouch.floors import is_floor

SIDE_FLOOR = [("a", 0, 0, 1, 1), ("b", 1, 0, 2, 1)]
STACK_FLOOR = [("a", 0, 1, 1, 2), ("b", 0, 0, 1, 1)]
THREE_FLOOR = [("a", 0, 1, 2, 2), ("b", 0, 0, 1, 1), ("c", 1, 0, 2, 1)]
WHIRL_FLOOR = [("a", 0, 2, 2, 3), ("b", 2, 1, 3, 3), ("c", 1, 0, 3, 1), ("d", 0, 0, 1, 2), ("e", 1, 1, 2, 2)]
GREAT = samples.web_of_floor(samples.GREAT_FLOOR)
FLOORS = [
    (samples.ONE, [("a", 0, 0, 1, 1)]),
    (samples.SIDE, SIDE_FLOOR),
    (samples.STACK, STACK_FLOOR),
    (samples.THREE, THREE_FLOOR),
    (samples.WHIRL, WHIRL_FLOOR),
    (GREAT, samples.GREAT_FLOOR),
]
THIRTY = 10**30 - 1


def changed(floor, at, place, value):
    """The floor with another value at one place of one tuple."""
    row = floor[at]
    return floor[:at] + [row[:place] + (value,) + row[place + 1 :]] + floor[at + 1 :]


class FloorCase(unittest.TestCase):
    def told(self, web, rows, known):
        before = copy.deepcopy((web, rows))
        self.assertIs(is_floor(web, rows), known, rows)
        self.assertEqual((web, rows), before)


class LetBy(FloorCase):
    def test_floors_of_one_room_and_of_several(self):
        for web, floor in FLOORS:
            self.told(web, floor, True)

    def test_in_any_order_of_the_tuples(self):
        for web, floor in FLOORS[:5]:
            for rows in itertools.permutations(floor):
                self.told(web, list(rows), True)
        for k in range(8):
            self.told(GREAT, samples.GREAT_FLOOR[k:] + samples.GREAT_FLOOR[:k], True)

    def test_of_a_web_in_any_order(self):
        for web, floor in FLOORS:
            self.told([(room, ring[2:] + ring[:2]) for room, ring in web[::-1]], floor, True)

    def test_one_room_of_any_size(self):
        for width, height in [(1, 1), (1, 9), (12, 5), (THIRTY, 1), (1, THIRTY), (THIRTY, THIRTY)]:
            self.told(samples.ONE, [("a", 0, 0, width, height)], True)

    def test_numbers_of_thirty_figures(self):
        steps = [0, 1, 10**15 + 7, THIRTY // 3, THIRTY - 9, THIRTY - 1, THIRTY]
        for web, floor in FLOORS:
            self.told(web, samples.stretched(floor, steps, steps[:1] + steps[2:] + [THIRTY + 1]), True)
            self.told(web, samples.stretched(floor, [k * (THIRTY // 8) for k in range(7)], steps), True)

    def test_great_floors_with_one_number_off_by_one(self):
        lines = [k * (THIRTY // 8) for k in range(7)]
        for web, floor in FLOORS:
            great = samples.stretched(floor, lines, lines)
            for at, place, step in itertools.product(range(len(great)), range(1, 5), (-1, 1)):
                rows = changed(great, at, place, great[at][place] + step)
                self.told(web, rows, samples.is_floor_by_the_words(web, rows))
        self.told(samples.SIDE, [("a", 0, 0, THIRTY - 1, 1), ("b", THIRTY - 2, 0, THIRTY, 1)], False)
        self.told(samples.SIDE, [("a", 0, 0, THIRTY - 2, 1), ("b", THIRTY - 1, 0, THIRTY, 1)], False)
        self.told(samples.SIDE, [("a", 0, 0, THIRTY - 1, THIRTY), ("b", THIRTY - 1, 0, THIRTY, THIRTY - 1)], False)


class NoFloorAtAll(FloorCase):
    def test_a_hole(self):
        ring = [("a", 0, 2, 2, 3), ("b", 2, 1, 3, 3), ("c", 1, 0, 3, 1), ("d", 0, 0, 1, 2)]
        for web in samples.all_webs(4):
            for names in itertools.permutations("abcd"):
                self.told(web, samples.renamed(ring, names), False)
        self.told(samples.SIDE, [("a", 0, 0, 1, 1), ("b", 2, 0, 3, 1)], False)
        self.told(samples.SIDE, [("a", 0, 0, 1, 2), ("b", 1, 0, 2, 1)], False)
        self.told(samples.STACK, [("a", 0, 2, 1, 3), ("b", 0, 0, 1, 1)], False)
        self.told(samples.THREE, [("a", 0, 1, 2, 2), ("b", 0, 0, 1, 1), ("c", 1, 0, 3, 1)], False)

    def test_rooms_over_one_another(self):
        self.told(samples.SIDE, [("a", 0, 0, 2, 1), ("b", 1, 0, 3, 1)], False)
        self.told(samples.SIDE, [("a", 0, 0, 2, 1), ("b", 0, 0, 2, 1)], False)
        self.told(samples.STACK, [("a", 0, 1, 1, 3), ("b", 0, 0, 1, 2)], False)
        self.told(samples.WHIRL, changed(WHIRL_FLOOR, 4, 3, 3), False)

    def test_a_hole_and_rooms_over_one_another_with_areas_that_add_up(self):
        self.told(samples.SIDE, [("a", 0, 0, 2, 2), ("b", 1, 0, 3, 1)], False)
        self.told(samples.SIDE, [("a", 0, 0, 2, 2), ("b", 1, 0, 3, 1)][::-1], False)
        rows = [("a", 0, 0, 3, 2), ("b", 0, 1, 1, 3), ("c", 2, 2, 3, 3)]
        self.assertEqual(sum((z - x) * (t - y) for _, x, y, z, t in rows), 9)
        for web in samples.all_webs(3):
            self.told(web, rows, False)

    def test_off_the_corner(self):
        for web, floor in FLOORS:
            for right, up in [(1, 0), (0, 1), (1, 1), (7, 7), (10**29, 0)]:
                rows = [(r, x + right, y + up, z + right, t + up) for r, x, y, z, t in floor]
                self.told(web, rows, False)

    def test_left_not_below_right_and_bottom_not_below_top(self):
        for row in [("a", 0, 0, 0, 1), ("a", 0, 0, 1, 0), ("a", 0, 0, 0, 0), ("a", 1, 0, 0, 1), ("a", 0, 1, 1, 0)]:
            self.told(samples.ONE, [row], False)
        for row in [("a", 1, 1, 0, 0), ("a", 1, 1, 1, 1), ("a", 2, 0, 2, 1)]:
            self.told(samples.ONE, [row], False)
        for web, floor in FLOORS:
            for at, (room, left, bottom, right, top) in enumerate(floor):
                for row in [(room, right, bottom, left, top), (room, left, top, right, bottom)]:
                    self.told(web, floor[:at] + [row] + floor[at + 1 :], False)
                self.told(web, floor[:at] + [(room, right, top, left, bottom)] + floor[at + 1 :], False)

    def test_a_number_below_nought(self):
        for row in [("a", -1, 0, 1, 1), ("a", 0, -1, 1, 1), ("a", -2, -2, -1, -1), ("a", -THIRTY, 0, 1, 1)]:
            self.told(samples.ONE, [row], False)
        for web, floor in FLOORS:
            self.told(web, [(r, x - 1, y, z - 1, t) for r, x, y, z, t in floor], False)
            self.told(web, [(r, x, y - 1, z, t - 1) for r, x, y, z, t in floor], False)
        for at, place in itertools.product(range(5), range(1, 5)):
            if WHIRL_FLOOR[at][place] == 0:
                self.told(samples.WHIRL, changed(WHIRL_FLOOR, at, place, -1), False)

    def test_a_truth_is_no_number(self):
        self.told(samples.ONE, [("a", False, False, True, True)], False)
        for web, floor in FLOORS:
            for at, place in itertools.product(range(len(floor)), range(1, 5)):
                if floor[at][place] in (0, 1):
                    self.told(web, changed(floor, at, place, floor[at][place] == 1), False)

    def test_a_room_left_out(self):
        for web, floor in FLOORS:
            for at in range(len(floor)):
                self.told(web, floor[:at] + floor[at + 1 :], False)
            self.told(web, [], False)

    def test_a_room_twice(self):
        for web, floor in FLOORS:
            for row in floor:
                self.told(web, floor + [row], False)
        self.told(samples.SIDE, SIDE_FLOOR + [("b", 2, 0, 3, 1)], False)
        self.told(samples.ONE, [("a", 0, 0, 1, 1), ("a", 1, 0, 2, 1)], False)
        self.told(samples.SIDE, [("a", 0, 0, 1, 1), ("a", 1, 0, 2, 1)], False)

    def test_a_room_more_than_the_web_has(self):
        self.told(samples.ONE, SIDE_FLOOR, False)
        self.told(samples.ONE, STACK_FLOOR, False)
        self.told(samples.SIDE, THREE_FLOOR, False)
        self.told(samples.SIDE, SIDE_FLOOR + [("c", 2, 0, 3, 1)], False)

    def test_many_tuples(self):
        nine = [(name, k, 0, k + 1, 1) for k, name in enumerate("abcdefghi")]
        self.told(samples.pile(8), nine, False)
        self.told(samples.ONE, [("a", 0, 0, 1, 1)] * 200, False)
        self.told(samples.ONE, [("a" * (k % 8 + 1), k, 0, k + 1, 1) for k in range(200)], False)

    def test_a_name_that_is_none_or_another(self):
        for name in ["", "A", "aB", "a1", "a b", " a", "abcdefghi", "north", "west", "b", "aa", "x" * 20000]:
            self.told(samples.ONE, [(name, 0, 0, 1, 1)], False)
            self.told(samples.WHIRL, changed(WHIRL_FLOOR, 0, 0, name), False)


class TiesAndTouches(FloorCase):
    def test_names_changed_about(self):
        for web, floor in FLOORS[1:5]:
            names = [row[0] for row in floor]
            for some in itertools.permutations(names):
                self.told(web, samples.renamed(floor, some), list(some) == names)

    def test_rooms_that_touch_and_are_not_tied(self):
        # In both webs a lies above d and b above c; in the one a and c touch, in the other b and d.
        one = [("a", 0, 1, 3, 2), ("b", 3, 1, 4, 2), ("c", 2, 0, 4, 1), ("d", 0, 0, 2, 1)]
        other = [("a", 0, 1, 1, 2), ("b", 1, 1, 4, 2), ("c", 2, 0, 4, 1), ("d", 0, 0, 2, 1)]
        for mine, yours in [(one, other), (other, one)]:
            self.told(samples.web_of_floor(mine), mine, True)
            self.told(samples.web_of_floor(mine), yours, False)

    def test_rooms_that_share_a_corner_alone_do_not_touch(self):
        cross = [("a", 0, 1, 1, 2), ("b", 1, 1, 2, 2), ("c", 1, 0, 2, 1), ("d", 0, 0, 1, 1)]
        for web in samples.all_webs(4):
            for names in itertools.permutations("abcd"):
                self.told(web, samples.renamed(cross, names), False)

    def test_walls_that_are_touched_and_not_tied(self):
        self.told(samples.SIDE, STACK_FLOOR, False)
        self.told(samples.STACK, SIDE_FLOOR, False)
        barred = [("a", ["north", "b", "east", "south", "west"]), ("b", ["north", "east", "a"])]
        for floor in [SIDE_FLOOR, STACK_FLOOR, samples.renamed(SIDE_FLOOR, "ba"), samples.renamed(STACK_FLOOR, "ba")]:
            self.told(barred, floor, False)

    def test_walls_of_a_floor_alone_differ(self):
        # The same rooms touch in both; in the one a is at east and west, in the other c is at north and south.
        above = [("a", 0, 1, 2, 2), ("b", 0, 0, 1, 1), ("c", 1, 0, 2, 1)]
        beside = [("a", 0, 1, 1, 2), ("b", 0, 0, 1, 1), ("c", 1, 0, 2, 2)]
        pairs = [{pair for pair in samples.pairs_touching(f) if not pair & set(samples.WALLS)} for f in (above, beside)]
        self.assertEqual(pairs[0], pairs[1])
        self.told(samples.web_of_floor(above), above, True)
        self.told(samples.web_of_floor(above), beside, False)
        self.told(samples.web_of_floor(beside), beside, True)
        self.told(samples.web_of_floor(beside), above, False)

    def test_turned_and_mirrored(self):
        for web, floor in [FLOORS[1]] + FLOORS[3:]:
            east = max(row[3] for row in floor)
            self.told(web, [(r, east - z, y, east - x, t) for r, x, y, z, t in floor], False)
            self.told(web, [(r, y, east - z, t, east - x) for r, x, y, z, t in floor], False)


class AllRows(FloorCase):
    def test_all_tuples_of_one_room_with_small_numbers(self):
        for numbers in itertools.product(range(-1, 3), repeat=4):
            rows = [("a",) + numbers]
            self.told(samples.ONE, rows, samples.is_floor_by_the_words(samples.ONE, rows))

    def test_all_tuples_of_two_rooms_with_small_numbers(self):
        let_by = 0
        for numbers in itertools.product(range(3), repeat=8):
            rows = [("a",) + numbers[:4], ("b",) + numbers[4:]]
            known = samples.is_floor_by_the_words(samples.SIDE, rows)
            self.assertIs(is_floor(samples.SIDE, rows), known, rows)
            let_by += known
        self.assertEqual(let_by, 2)

    def test_all_small_floors_against_all_webs(self):
        for count, most in [(1, 3), (2, 4), (3, 3)]:
            webs = samples.all_webs(count)
            for width, height in itertools.product(range(1, most + 1), repeat=2):
                for floor in samples.floors_within(width, height, count):
                    for names in itertools.permutations("abc"[:count]):
                        rows = samples.renamed(floor, names)
                        for web in webs:
                            known = samples.is_floor_by_the_words(web, rows)
                            self.assertIs(is_floor(web, rows), known, (web, rows))

    def test_floors_of_four_against_each_web_of_four(self):
        webs = samples.all_webs(4)
        for floor in samples.floors_within(3, 3, 4):
            own = [web for web in webs if is_floor(web, floor)]
            self.assertEqual(own, [web for web in webs if samples.is_floor_by_the_words(web, floor)])


class Refused(FloorCase):
    def test_what_is_no_web_comes_first(self):
        for web in [[], "", (), tuple(samples.ONE), [("north", ["east", "south", "west"])], samples.pile(9), [[]]]:
            for rows in [[], [("a", 0, 0, 1, 1)], [("A", 1, 1, 0, 0)]]:
                with self.assertRaises(errors.NoWeb):
                    is_floor(web, rows)


if __name__ == "__main__":
    unittest.main()
