"""The whole: the promise of point 4, points 2 and 3 over the whole program, and the interface."""

import copy
import importlib
import inspect
import itertools
import unittest

import samples
from roomtouch import errors
from roomtouch.floors import is_floor, least_floor, tinting_of, wished
from roomtouch.houses import House
from roomtouch.texts import read_floor, read_web, show_floor, show_web
from roomtouch.tintings import is_tinting, tintings
from roomtouch.touches import web_of
from roomtouch.webs import bars, must_web

INTERFACE = {
    "webs": {"must_web": ["web"], "bars": ["web"]},
    "tintings": {"is_tinting": ["web", "rows"], "tintings": ["web"]},
    "floors": {
        "is_floor": ["web", "rows"],
        "tinting_of": ["web", "floor"],
        "least_floor": ["web", "tinting"],
        "wished": ["web", "tinting", "sizes"],
    },
    "touches": {"web_of": ["rows"]},
    "houses": {"House": ["room", "width", "height"]},
    "texts": {"show_web": ["web"], "read_web": ["text"], "show_floor": ["floor"], "read_floor": ["text"]},
}
DEEDS = {"cut": ["room", "name", "way", "at"], "join": ["room", "other"], "back": [], "floor": [], "deeds": [], "twin": []}
GREAT = samples.web_of_floor(samples.GREAT_FLOOR)
BARRED = [
    ("p", ["north", "b", "east", "south", "zz", "west"]),
    ("b", ["north", "east", "p"]),
    ("zz", ["p", "south", "west"]),
]


def wishes(web):
    return [(room, 1 + k, 9 - k) for k, (room, _) in enumerate(web) if k % 3 < 2]


def asked_of(web):
    """All that can be asked of a web and what hangs on it, as pairs of a function and what it is handed."""
    text = show_web(web)
    asked = [(must_web, (web,)), (bars, (web,)), (tintings, (web,)), (show_web, (web,)), (read_web, (text,))]
    for rows in tintings(web):
        turned = rows[2:] + rows[:2]
        floor = wished(web, rows, wishes(web))[::-1]
        asked += [(is_tinting, (web, turned)), (least_floor, (web, turned)), (wished, (web, turned, wishes(web)))]
        asked += [(is_floor, (web, floor)), (tinting_of, (web, floor)), (web_of, (floor,)), (show_floor, (floor,))]
        asked += [(read_floor, (show_floor(floor),)), (is_floor, (web, floor[1:])), (is_tinting, (web, turned[1:]))]
    return asked


class Promise(unittest.TestCase):
    def whole_way(self, web):
        """From a web to its tintings, their floors and their texts, and back; how many tintings there are."""
        threes, told = bars(web), tintings(web)
        self.assertEqual(threes == [], told != [], web)
        ordered = samples.web_in_order(web)
        self.assertEqual(read_web(show_web(web)), ordered)
        for rows in told:
            for floor in [least_floor(web, rows), wished(web, rows, wishes(web))]:
                self.assertTrue(samples.is_floor_by_the_words(web, floor))
                self.assertFalse(samples.four_meet(floor))
                self.assertIs(is_floor(web, floor), True)
                self.assertEqual(tinting_of(web, floor), rows)
                self.assertIs(is_tinting(web, tinting_of(web, floor)), True)
                self.assertEqual(web_of(floor), ordered)
                self.assertEqual(read_floor(show_floor(floor)), floor)
        return len(told)

    def test_all_webs_of_up_to_five_rooms(self):
        for count, known in [(1, 1), (2, 2), (3, 6), (4, 24), (5, 116)]:
            self.assertEqual(sum(self.whole_way(web) for web in samples.all_webs(count)), known)

    def test_webs_of_eight_rooms(self):
        for seed in range(50):
            web = samples.web_of_floor(samples.cut_floor(8, seed))
            self.assertGreater(self.whole_way(web), 0)
            self.whole_way(samples.wander(web, 3, seed))
        self.whole_way(GREAT)

    def test_a_web_that_is_barred_has_no_floor(self):
        webs = {count: [web for web in samples.all_webs(count) if bars(web)] for count in (2, 3)}
        for count, most in [(2, 3), (3, 3)]:
            for width, height in itertools.product(range(1, most + 1), repeat=2):
                for floor in samples.floors_within(width, height, count):
                    for names in itertools.permutations("abc"[:count]):
                        self.assertFalse(any(is_floor(web, samples.renamed(floor, names)) for web in webs[count]))

    def test_from_a_floor_to_its_web_and_back(self):
        for seed in range(50):
            floor = sorted(samples.cut_floor(1 + seed % 8, seed))
            web = web_of(floor)
            self.assertEqual(bars(web), [])
            self.assertIs(is_floor(web, floor), True)
            own = tinting_of(web, floor)
            having = [rows for rows in tintings(web) if rows == own]
            self.assertEqual(having, [own])
            sizes = [(r, z - x, t - y) for r, x, y, z, t in floor]
            least = wished(web, own, sizes)
            self.assertTrue(samples.fits_wishes(least, sizes))
            for row, other in zip(least, floor):
                self.assertTrue(all(less <= number for less, number in zip(row[1:], other[1:])))
            for rows in tintings(web):
                told = read_floor(show_floor(least_floor(web, rows)))
                self.assertEqual(web_of(told), web)
                self.assertEqual(tinting_of(read_web(show_web(web)), told), rows)

    def test_from_a_house_to_its_web(self):
        house = House("hall", 40, 30)
        house.cut("hall", "kitchen", "on", 25)
        house.cut("hall", "study", "up", 12)
        house.cut("kitchen", "bath", "up", 20)
        house.cut("kitchen", "store", "on", 33)
        web = web_of(house.floor())
        self.assertIs(is_floor(web, house.floor()), True)
        told = least_floor(web, tinting_of(web, house.floor()))
        known = "bath 1 2 3 3\nhall 0 0 1 1\nkitchen 1 0 2 2\nstore 2 0 3 2\nstudy 0 1 1 3"
        self.assertEqual(show_floor(told), known)
        self.assertEqual(web_of(told), web)


class Own(unittest.TestCase):
    def webs(self):
        return [samples.ONE, samples.SIDE, samples.THREE, samples.WHIRL, GREAT, BARRED, samples.pile(8)]

    def test_what_is_handed_in_stays(self):
        for web in self.webs():
            for ask, given in asked_of(web):
                before = copy.deepcopy(given)
                ask(*given)
                self.assertEqual(given, before, ask)

    def test_asked_again_the_same_is_told_whatever_was_done_to_it(self):
        for web in self.webs():
            for ask, given in asked_of(web):
                told = ask(*given)
                known = copy.deepcopy(told)
                later = ask(*given)
                for thing in samples.lists_within(told):
                    thing.append("gone")
                    thing.reverse()
                self.assertEqual(later, known)
                self.assertEqual(ask(*copy.deepcopy(given)), known)

    def test_no_list_stands_at_two_places(self):
        for web in self.webs():
            for ask, given in asked_of(web):
                lists = samples.lists_within(ask(*given)) + samples.lists_within(ask(*given)) + samples.lists_within(given)
                kept = samples.lists_within(given)
                self.assertEqual(len({id(thing) for thing in lists}), len(lists), ask)
                self.assertEqual(len({id(thing) for thing in kept}), len(kept), ask)

    def test_what_is_done_afterwards_to_what_was_handed_in(self):
        for web in self.webs():
            for ask, given in asked_of(web):
                mine = copy.deepcopy(given)
                told = ask(*mine)
                known = copy.deepcopy(told)
                for thing in samples.lists_within(mine):
                    thing.clear()
                self.assertEqual(told, known)

    def test_truths_are_told_where_asked_for_alone(self):
        for web in self.webs():
            for ask, given in asked_of(web):
                told = ask(*given)
                if ask in (is_tinting, is_floor):
                    self.assertIn(told, [True, False])
                    self.assertIs(told.__class__, bool)
                elif ask in (least_floor, wished, read_floor):
                    self.assertEqual({number.__class__ for row in told for number in row[1:]}, {int})

    def test_lists_are_told_in_order(self):
        for web in self.webs():
            for ask, given in asked_of(web):
                told = ask(*given)
                if isinstance(told, list):
                    self.assertEqual(told, sorted(told), ask)
                    self.assertEqual(len({repr(thing) for thing in told}), len(told))

    def test_refusals_change_nothing_that_was_handed_in(self):
        web, rows = samples.copied(samples.SIDE), [("a", 0, 0, 1, 1), ("b", 2, 0, 3, 1)]
        for ask, given, error in [
            (tinting_of, (web, rows), errors.NoFloor),
            (least_floor, (web, [("up", "a", "b")]), errors.NoTinting),
            (wished, (web, [("up", "a", "b")], [("b", 2, 2), ("a", 1, 1)]), errors.NoTinting),
            (web_of, (rows,), errors.NoFloor),
            (show_web, ([("b", []), ("a", ["west", "north"])],), errors.NoWeb),
        ]:
            before = copy.deepcopy(given)
            with self.assertRaises(error):
                ask(*given)
            self.assertEqual(given, before)


class Interface(unittest.TestCase):
    def test_names_and_arguments(self):
        for module, names in INTERFACE.items():
            found = importlib.import_module("roomtouch." + module)
            for name, arguments in names.items():
                self.assertEqual(list(inspect.signature(getattr(found, name)).parameters), arguments)
        for name, arguments in DEEDS.items():
            self.assertEqual(list(inspect.signature(getattr(House, name)).parameters), ["self"] + arguments)


if __name__ == "__main__":
    unittest.main()
