"""Point 8: whether rows are a tinting, and all tintings; with points 2, 3 and 4."""

import copy
import itertools
import unittest

import samples
from roomtouch.tintings import goes_round, is_tinting, tintings
from roomtouch.webs import bars

GREAT = samples.web_of_floor(samples.GREAT_FLOOR)
ONE_ROWS = [("on", "a", "east"), ("on", "west", "a"), ("up", "a", "north"), ("up", "south", "a")]
SIDE_ROWS = [
    ("on", "a", "b"),
    ("on", "b", "east"),
    ("on", "west", "a"),
    ("up", "a", "north"),
    ("up", "b", "north"),
    ("up", "south", "a"),
    ("up", "south", "b"),
]
STACK_ROWS = [
    ("on", "a", "east"),
    ("on", "b", "east"),
    ("on", "west", "a"),
    ("on", "west", "b"),
    ("up", "a", "north"),
    ("up", "b", "a"),
    ("up", "south", "b"),
]
LET_BY = [(samples.ONE, ONE_ROWS), (samples.SIDE, SIDE_ROWS), (samples.STACK, STACK_ROWS)]


def all_ways(web):
    """All lists of rows in which the walls' are right, and each tie of rooms goes some way."""
    loose = [samples.four_ways(*tie) for tie in samples.ties(web) if tie[1] not in samples.WALLS]
    for picked in itertools.product(*loose):
        yield samples.wall_rows(web) + list(picked)


def without(rows, row):
    return [other for other in rows if other != row]


class IsTinting(unittest.TestCase):
    def told(self, web, rows, known):
        before = copy.deepcopy((web, rows))
        self.assertIs(is_tinting(web, rows), known, rows)
        self.assertEqual((web, rows), before)

    def samples(self):
        for web in [samples.ONE, samples.SIDE, samples.STACK, samples.THREE, samples.WHIRL, GREAT]:
            for rows in tintings(web):
                yield web, rows

    def test_let_by_in_any_order_of_the_tuples(self):
        for web, rows in LET_BY:
            self.told(web, rows, True)
            self.told(web, rows[::-1], True)
        for rows in itertools.permutations(ONE_ROWS):
            self.told(samples.ONE, list(rows), True)
        for web, rows in self.samples():
            for k in range(len(rows)):
                self.told(web, rows[k:] + rows[:k], True)

    def test_let_by_of_a_web_in_any_order(self):
        for web, rows in self.samples():
            self.told([(room, ring[2:] + ring[:2]) for room, ring in web[::-1]], rows, True)

    def test_no_rows_at_all(self):
        for web, rows in self.samples():
            self.told(web, [], False)

    def test_a_tuple_left_out(self):
        for web, rows in self.samples():
            for row in rows:
                self.told(web, without(rows, row), False)

    def test_a_tuple_put_in_twice(self):
        for web, rows in self.samples():
            for row in rows:
                self.told(web, rows + [row], False)
                self.told(web, sorted(rows + [row]), False)

    def test_a_tuple_twice_in_the_place_of_another(self):
        for web, rows in self.samples():
            for row, other in itertools.permutations(rows, 2):
                self.told(web, without(rows, row) + [other], False)

    def test_a_tuple_turned_about(self):
        for web, rows in self.samples():
            for row in rows:
                way, one, other = row
                self.told(web, without(rows, row) + [(way, other, one)], False)
                self.told(web, rows + [(way, other, one)], False)

    def test_a_tuple_with_the_other_way(self):
        # In these samples no tie can go the other way by itself.
        for web, rows in LET_BY:
            for row in rows:
                way, one, other = row
                changed = {"up": "on", "on": "up"}[way]
                self.told(web, without(rows, row) + [(changed, one, other)], False)
                self.told(web, rows + [(changed, one, other)], False)

    def test_a_tuple_with_another_name(self):
        for web, rows in self.samples():
            for row in rows:
                way, one, other = row
                for name in ["q", "", "A", "up", "on"]:
                    self.told(web, without(rows, row) + [(way, name, other)], False)
                    self.told(web, without(rows, row) + [(way, one, name)], False)
                self.told(web, without(rows, row) + [(way, one, one)], False)

    def test_a_tuple_with_a_strange_word(self):
        for web, rows in self.samples():
            for row in rows:
                for word in ["", "down", "UP", "Up", "up ", "onto", "north", "a", "x" * 20000]:
                    self.told(web, without(rows, row) + [(word, row[1], row[2])], False)

    def test_a_tuple_of_what_is_not_tied(self):
        for row in [("up", "south", "north"), ("on", "west", "east"), ("on", "north", "east"), ("up", "south", "west")]:
            for web, rows in self.samples():
                self.told(web, rows + [row], False)
        self.told(samples.SIDE, without(SIDE_ROWS, SIDE_ROWS[0]) + [("on", "west", "b")], False)
        self.told(samples.SIDE, SIDE_ROWS + [("on", "a", "east")], False)
        self.told(samples.WHIRL, tintings(samples.WHIRL)[0] + [("on", "a", "c")], False)

    def test_many_tuples(self):
        self.told(samples.ONE, ONE_ROWS * 50, False)
        self.told(samples.ONE, [("up", "a", "north")] * 200, False)

    def test_walls_on_wrong_sides(self):
        self.told(samples.ONE, ONE_ROWS[:2] + [("up", "north", "a"), ("up", "a", "south")], False)
        turned = [("up", "a", "east"), ("up", "west", "a"), ("on", "north", "a"), ("on", "a", "south")]
        self.told(samples.ONE, turned, False)
        self.told(samples.ONE, [(way, other, one) for way, one, other in ONE_ROWS], False)

    def test_all_ways_of_one_room_and_of_two(self):
        for web, rows in LET_BY:
            let_by = []
            for picked in itertools.product(*[samples.four_ways(*tie) for tie in samples.ties(web)]):
                if is_tinting(web, list(picked)):
                    let_by.append(sorted(picked))
            self.assertEqual(let_by, [rows])

    def test_a_room_with_no_one_on_a_side(self):
        # The tie of a and b the other way leaves no one to the right of a, or beneath it.
        self.told(samples.SIDE, SIDE_ROWS[1:] + [("up", "a", "b")], False)
        self.told(samples.SIDE, SIDE_ROWS[1:] + [("up", "b", "a")], False)
        self.told(samples.SIDE, SIDE_ROWS[1:] + [("on", "b", "a")], False)
        stack = without(STACK_ROWS, ("up", "b", "a"))
        self.told(samples.STACK, stack + [("on", "a", "b")], False)
        self.told(samples.STACK, stack + [("on", "b", "a")], False)
        self.told(samples.STACK, stack + [("up", "a", "b")], False)
        # The middle room of the whirl, left with no one above, to the right, beneath or to the left.
        for rows in tintings(samples.WHIRL):
            for row in [row for row in rows if "e" in row[1:]]:
                for changed in samples.four_ways(row[1], row[2]):
                    self.told(samples.WHIRL, without(rows, row) + [changed], changed == row)

    def test_those_on_one_side_in_two_rows(self):
        # The middle room has others above it and beneath it in turn.
        whirl = tintings(samples.WHIRL)[0]
        ring = [("up", "e", "a"), ("up", "e", "c"), ("up", "b", "e"), ("on", "d", "e")]
        self.told(samples.WHIRL, [row for row in whirl if "e" not in row[1:]] + ring, False)

    def test_one_tie_of_many_changed(self):
        for rows in tintings(GREAT):
            for row in rows:
                for way in samples.four_ways(row[1], row[2]):
                    changed = without(rows, row) + [way]
                    self.told(GREAT, changed, samples.fits_by_the_words(GREAT, changed))

    def test_webs_that_are_barred_have_none(self):
        for web in samples.all_webs(3):
            if bars(web) != []:
                for rows in all_ways(web):
                    self.told(web, rows, False)

    def test_held_against_the_words_of_the_document(self):
        for web in samples.all_webs(3):
            for rows in all_ways(web):
                self.told(web, rows, samples.fits_by_the_words(web, rows))

    def test_all_sides_of_up_to_eight_neighbours(self):
        # Going round twice is among them: it takes eight.
        letter = {"north": "A", "east": "R", "south": "B", "west": "L"}
        for count in range(3, 9):
            for sides in itertools.product(samples.WALLS, repeat=count):
                whole = samples.whole_ring("".join(letter[side] for side in sides))
                self.assertIs(goes_round(list(sides)), whole, sides)


class Tintings(unittest.TestCase):
    def test_webs_of_one_room_and_of_two(self):
        for web, rows in LET_BY:
            self.assertEqual(tintings(web), [rows])

    def test_two_whirls(self):
        told = tintings(samples.WHIRL)
        self.assertEqual(len(told), 2)
        self.assertIn(("on", "a", "e"), told[0])
        self.assertIn(("up", "e", "a"), told[1])

    def test_names_decide_the_order(self):
        web = [("zz", ["north", "oak", "south", "west"]), ("oak", ["north", "east", "south", "zz"])]
        known = [
            ("on", "oak", "east"),
            ("on", "west", "zz"),
            ("on", "zz", "oak"),
            ("up", "oak", "north"),
            ("up", "south", "oak"),
            ("up", "south", "zz"),
            ("up", "zz", "north"),
        ]
        self.assertEqual(tintings(web), [known])

    def test_held_against_a_search_through_all_ways(self):
        for count in (1, 2, 3):
            for web in samples.all_webs(count):
                self.assertEqual(tintings(web), samples.tintings_by_search(web))
        for web in samples.all_webs(4):
            if sum(tie[1] not in samples.WALLS for tie in samples.ties(web)) <= 5:
                self.assertEqual(tintings(web), samples.tintings_by_search(web))
        self.assertEqual(tintings(samples.WHIRL), samples.tintings_by_search(samples.WHIRL))

    def test_none_just_where_a_three_bars(self):
        for count in range(1, 6):
            for web in samples.all_webs(count):
                self.assertEqual(tintings(web) == [], bars(web) != [], web)

    def test_as_many_as_floors_of_so_many_rooms(self):
        # Each floor, but for its sizes, has one tinting, and no two have the same; the counts of floors are known.
        for count, floors in [(1, 1), (2, 2), (3, 6), (4, 24), (5, 116)]:
            self.assertEqual(sum(len(tintings(web)) for web in samples.all_webs(count)), floors)

    def test_each_is_a_tinting_in_order_and_the_list_too(self):
        for web in samples.all_webs(5) + [GREAT]:
            told = tintings(web)
            self.assertIsInstance(told, list)
            self.assertEqual(told, sorted(told))
            for one, other in zip(told, told[1:]):
                self.assertNotEqual(one, other)
            for rows in told:
                self.assertIsInstance(rows, list)
                self.assertEqual(rows, sorted(rows))
                self.assertTrue(samples.fits_by_the_words(web, rows))
                self.assertTrue(all(isinstance(row, tuple) for row in rows))
                self.assertEqual(len(rows), len(samples.ties(web)))
                self.assertIs(is_tinting(web, rows), True)

    def test_of_the_same_web_the_same_is_told(self):
        for web in [samples.THREE, samples.WHIRL, GREAT]:
            known = tintings(web)
            self.assertEqual(tintings(web[::-1]), known)
            self.assertEqual(tintings([(room, ring[2:] + ring[:2]) for room, ring in web]), known)


class EightRooms(unittest.TestCase):
    def test_the_tinting_of_a_floor_is_among_them(self):
        told = tintings(GREAT)
        self.assertEqual(bars(GREAT), [])
        self.assertIn(samples.tinting_of_floor(samples.GREAT_FLOOR), told)
        self.assertEqual(told, samples.tintings_room_by_room(GREAT))

    def test_a_pile(self):
        told = tintings(samples.pile(8))
        self.assertEqual(len(told), 1)
        self.assertEqual(told, samples.tintings_room_by_room(samples.pile(8)))

    def test_floors_made_by_cutting(self):
        for seed in range(60):
            floor = samples.cut_floor(8, seed)
            web = samples.web_of_floor(floor)
            self.assertEqual(samples.broken(web), [])
            self.assertEqual(bars(web), [])
            told = tintings(web)
            self.assertIn(samples.tinting_of_floor(floor), told)
            self.assertEqual(told, samples.tintings_room_by_room(web))

    def test_tintings_or_threes_that_bar_never_both(self):
        for seed in range(60):
            web = samples.wander(samples.web_of_floor(samples.cut_floor(8, seed)), 4, seed)
            self.assertEqual(samples.broken(web), [])
            self.assertEqual(bars(web), samples.bars_by_the_words(web))
            told = tintings(web)
            self.assertEqual(told == [], bars(web) != [])
            self.assertEqual(told, samples.tintings_room_by_room(web))


class AskersOwn(unittest.TestCase):
    def webs(self):
        return [samples.ONE, samples.THREE, samples.WHIRL, GREAT] + samples.all_webs(4)[::9]

    def test_what_is_handed_in_stays(self):
        for web in self.webs():
            before = copy.deepcopy(web)
            for rows in tintings(web):
                given = rows[::-1]
                is_tinting(web, given)
                self.assertEqual(given, rows[::-1])
            self.assertEqual(web, before)

    def test_what_was_told_is_changed_and_told_again(self):
        for web in self.webs():
            told = tintings(web)
            known = copy.deepcopy(told)
            later = tintings(web)
            for rows in told:
                rows.append(("gone", "", ""))
                rows.reverse()
            told.append("gone")
            self.assertEqual(later, known)
            self.assertEqual(tintings(web), known)
            self.assertEqual(tintings(copy.deepcopy(web)), known)

    def test_no_list_stands_at_two_places(self):
        for web in self.webs():
            told = tintings(web)
            later = tintings(web)
            self.assertEqual(len({id(rows) for rows in told + later}), len(told) + len(later))

    def test_what_is_handed_in_may_be_changed_afterwards(self):
        web = samples.copied(samples.WHIRL)
        told = tintings(web)
        known = copy.deepcopy(told)
        for room, ring in web:
            ring.clear()
        web.clear()
        self.assertEqual(told, known)
        self.assertEqual(tintings(samples.WHIRL), known)


if __name__ == "__main__":
    unittest.main()
