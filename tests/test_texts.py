"""Point 13: webs and floors shown and read, and NoText; with points 2 and 6."""

import copy
import itertools
import re
import unittest

import samples
from roomtouch import errors
from roomtouch.texts import read_floor, read_web, show_floor, show_web

GREAT = samples.web_of_floor(samples.GREAT_FLOOR)
WEBS = [samples.ONE, samples.SIDE, samples.STACK, samples.THREE, samples.WHIRL, GREAT, samples.pile(8)]
BARRED = [("a", ["north", "b", "east", "south", "west"]), ("b", ["north", "east", "a"])]
WHIRL_FLOOR = [("a", 0, 2, 2, 3), ("b", 2, 1, 3, 3), ("c", 1, 0, 3, 1), ("d", 0, 0, 1, 2), ("e", 1, 1, 2, 2)]
CROSS = [("a", 0, 1, 1, 2), ("b", 1, 1, 2, 2), ("c", 1, 0, 2, 1), ("d", 0, 0, 1, 1)]
THREE_FLOOR = [("a", 0, 11, 20, 25), ("b", 0, 0, 1, 11), ("c", 1, 0, 20, 11)]
FLOORS = [[("a", 0, 0, 1, 1)], [("a", 0, 0, 12, 120)], THREE_FLOOR, WHIRL_FLOOR, CROSS, samples.GREAT_FLOOR]
OTHERS = ["NoWeb", "NoTinting", "NoFloor", "Meeting", "NoRoom", "NoName", "Twice", "NoCut", "TooMany", "NoDeed"]
SIGNS = " \n:0123456789abcdenorthsuw-+_.A~\t"


def web_read_by_the_words(text):
    """The web whose text this is, or None."""
    web = []
    for line in text.split("\n"):
        if not re.fullmatch(r"[a-z]{1,8}:( [a-z]{1,8})+", line, re.ASCII):
            return None
        room, names = line.split(": ")
        web.append((room, names.split(" ")))
    rooms = [room for room, _ in web]
    if len(rooms) > 8 or rooms != sorted(set(rooms)) or set(rooms) & set(samples.WALLS):
        return None
    for room, ring in web:
        known = set(ring) <= (set(rooms) | set(samples.WALLS)) - {room}
        if not known or len(ring) < 3 or len(set(ring)) != len(ring) or ring[0] != min(ring):
            return None
    return None if samples.broken(web) else web


def floor_read_by_the_words(text):
    """The floor whose text this is, or None."""
    rows = []
    for line in text.split("\n"):
        if not re.fullmatch(r"[a-z]{1,8}( (0|[1-9][0-9]{0,59})){4}", line, re.ASCII):
            return None
        room, *numbers = line.split(" ")
        rows.append((room,) + tuple(int(number) for number in numbers))
    return rows if rows == sorted(rows) and samples.is_any_floor_by_the_words(rows) else None


def near(text):
    """All texts with one sign less, another, or one more."""
    for at in range(len(text) + 1):
        yield text[:at] + text[at + 1 :]
        for sign in SIGNS:
            yield text[:at] + sign + text[at:]
            yield text[:at] + sign + text[at + 1 :]


class TextCase(unittest.TestCase):
    def refused(self, read, text):
        with self.assertRaises(ValueError, msg=repr(text)) as taken:
            read(text)
        self.assertIsInstance(taken.exception, errors.TouchError)
        self.assertIsInstance(taken.exception, errors.NoText, text)
        for name in OTHERS:
            self.assertNotIsInstance(taken.exception, getattr(errors, name))

    def held(self, read, by_the_words, text):
        known = by_the_words(text)
        if known is None:
            self.refused(read, text)
        else:
            self.assertEqual(read(text), known)


class ShowWeb(TextCase):
    def test_known_texts(self):
        self.assertEqual(show_web(samples.ONE), "a: east south west north")
        self.assertEqual(show_web(samples.SIDE), "a: b south west north\nb: a north east south")
        whirl = "a: b e d west north\nb: a north east c e\nc: b east south d e\nd: a e c south west\ne: a b c d"
        self.assertEqual(show_web(samples.WHIRL), whirl)
        named = [("zz", ["north", "oak", "south", "west"]), ("oak", ["north", "east", "south", "zz"])]
        self.assertEqual(show_web(named), "oak: east south zz north\nzz: north oak south west")

    def test_a_web_that_is_barred_is_shown_and_read_too(self):
        self.assertEqual(show_web(BARRED), "a: b east south west north\nb: a north east")
        self.assertEqual(read_web(show_web(BARRED)), samples.web_in_order(BARRED))

    def test_whatever_the_order_and_the_first_names(self):
        for web in WEBS + [BARRED]:
            known = show_web(web)
            for k in range(8):
                turned = [(room, ring[k % len(ring) :] + ring[: k % len(ring)]) for room, ring in web]
                before = copy.deepcopy(turned)
                self.assertEqual(show_web(turned), known)
                self.assertEqual(show_web(turned[::-1]), known)
                self.assertEqual(show_web(turned[k % len(web) :] + turned[: k % len(web)]), known)
                self.assertEqual(turned, before)

    def test_no_line_end_behind_the_last(self):
        for web in WEBS:
            self.assertEqual(len(show_web(web).split("\n")), len(web))
            self.assertFalse(show_web(web).endswith("\n"))

    def test_what_is_no_web(self):
        no_webs = [[], "", "a: b", (), tuple(samples.ONE), [[]], [("a", "b")], samples.pile(9), samples.ONE * 2]
        for web in no_webs + [[(room, ring[::-1]) for room, ring in samples.WHIRL]]:
            with self.assertRaises(errors.NoWeb):
                show_web(web)


class ReadWeb(TextCase):
    def test_texts_read_again(self):
        for web in WEBS + samples.all_webs(4):
            told = read_web(show_web(web))
            self.assertEqual(told, samples.web_in_order(web))
            self.assertEqual({pair.__class__ for pair in told}, {tuple})
            self.assertEqual({ring.__class__ for _, ring in told}, {list})
            self.assertEqual(show_web(told), show_web(web))

    def test_one_sign_less_or_more_or_another(self):
        for web in [samples.ONE, samples.SIDE, samples.WHIRL, BARRED]:
            for text in near(show_web(web)):
                self.held(read_web, web_read_by_the_words, text)

    def test_blanks_and_line_ends(self):
        text = show_web(samples.THREE)
        for wrong in [text + "\n", "\n" + text, text + " ", " " + text, text.replace("\n", "\n\n"), text + "\n\n"]:
            self.refused(read_web, wrong)
        for wrong in [text.replace(" ", "  "), text.replace("\n", " \n"), text.replace("\n", "\n "), text.replace(" ", "")]:
            self.refused(read_web, wrong)
        for wrong in [text.replace(":", ""), text.replace(":", " :"), text.replace(":", "::"), text.replace(": ", ":")]:
            self.refused(read_web, wrong)
        for wrong in ["\r\n", "\r", "\t", "\x0b", "\x0c", "\x1c", "\x85", "\u2028"]:
            self.refused(read_web, text.replace("\n", wrong))
            self.refused(read_web, text.replace(" ", wrong))

    def test_lines_in_another_order(self):
        lines = show_web(samples.THREE).split("\n")
        for some in itertools.permutations(lines):
            if list(some) == lines:
                self.assertEqual(read_web("\n".join(some)), samples.web_in_order(samples.THREE))
            else:
                self.refused(read_web, "\n".join(some))

    def test_a_ring_begun_at_another_name(self):
        for web in WEBS:
            lines = show_web(web).split("\n")
            for at, line in enumerate(lines):
                room, *names = line.split(" ")
                for k in range(1, len(names)):
                    turned = " ".join([room] + names[k:] + names[:k])
                    self.refused(read_web, "\n".join(lines[:at] + [turned] + lines[at + 1 :]))

    def test_lines_of_no_web(self):
        for wrong in ["", "\n", " ", ":", "a", "a:", "a: ", "a: b", "a: a b c", ": east south west north", "web"]:
            self.refused(read_web, wrong)
        self.refused(read_web, "a: east north west south")
        self.refused(read_web, "A: east south west north")
        self.refused(read_web, "north: east south west")
        self.refused(read_web, "abcdefghi: east south west north")
        self.refused(read_web, "a: east south west north\na: east south west north")
        self.refused(read_web, "a: east south west north\nb: east south west north")
        self.refused(read_web, show_floor(WHIRL_FLOOR))
        nine = ["north"] + list("abcdefghi") + ["south"]
        lines = []
        for k in range(1, 10):
            ring = [nine[k - 1], "east", nine[k + 1], "west"]
            lines.append(nine[k] + ": " + " ".join(min(ring[j:] + ring[:j] for j in range(4))))
        self.refused(read_web, "\n".join(lines))

    def test_lines_left_out_and_twice(self):
        for web in WEBS[1:]:
            lines = show_web(web).split("\n")
            for at in range(len(lines)):
                self.refused(read_web, "\n".join(lines[:at] + lines[at + 1 :]))
                self.refused(read_web, "\n".join(lines[: at + 1] + lines[at:]))

    def test_long_texts(self):
        for sign in " \na:~0":
            self.refused(read_web, sign * 20000)
        self.refused(read_web, "a:" + " b" * 9999)
        self.refused(read_web, "a: east south west north\n" * 800)

    def test_what_is_told_is_the_askers_own(self):
        text = show_web(GREAT)
        told = read_web(text)
        known = copy.deepcopy(told)
        lists = samples.lists_within(told)
        self.assertEqual(len({id(thing) for thing in lists}), len(lists))
        for thing in lists:
            thing.clear()
        self.assertEqual(read_web(text), known)


class ShowFloor(TextCase):
    def test_known_texts(self):
        self.assertEqual(show_floor([("a", 0, 0, 1, 1)]), "a 0 0 1 1")
        self.assertEqual(show_floor([("b", 1, 0, 12, 7), ("a", 0, 0, 1, 7)]), "a 0 0 1 7\nb 1 0 12 7")
        great = 10**30 - 1
        self.assertEqual(show_floor([("hall", 0, 0, great, 10**29)]), "hall 0 0 " + "9" * 30 + " 1" + "0" * 29)

    def test_whatever_the_order(self):
        for floor in FLOORS:
            for rows in [floor[::-1], floor[1:] + floor[:1], floor[2:] + floor[:2]]:
                before = list(rows)
                self.assertEqual(show_floor(rows), show_floor(floor))
                self.assertEqual(rows, before)
            self.assertEqual(len(show_floor(floor).split("\n")), len(floor))

    def test_four_rooms_that_meet(self):
        self.assertEqual(show_floor(CROSS[::-1]), "a 0 1 1 2\nb 1 1 2 2\nc 1 0 2 1\nd 0 0 1 1")
        self.assertEqual(read_floor(show_floor(CROSS)), CROSS)


class ReadFloor(TextCase):
    def test_texts_read_again(self):
        for floor in FLOORS:
            told = read_floor(show_floor(floor[::-1]))
            self.assertEqual(told, sorted(floor))
            self.assertEqual({row.__class__ for row in told}, {tuple})
            self.assertEqual({number.__class__ for row in told for number in row[1:]}, {int})
        for floor in itertools.chain(samples.floors_within(3, 3, 4), samples.floors_within(2, 4, 3)):
            self.assertEqual(read_floor(show_floor(floor)), sorted(floor))

    def test_one_sign_less_or_more_or_another(self):
        for floor in FLOORS[:5]:
            for text in near(show_floor(floor)):
                self.held(read_floor, floor_read_by_the_words, text)

    def test_blanks_and_line_ends(self):
        text = show_floor(THREE_FLOOR)
        for wrong in [text + "\n", "\n" + text, text + " ", " " + text, text.replace("\n", "\n\n"), text + "\n\n"]:
            self.refused(read_floor, wrong)
        for wrong in [text.replace(" ", "  "), text.replace("\n", " \n"), text.replace("\n", "\n "), text.replace(" ", "")]:
            self.refused(read_floor, wrong)
        for wrong in ["\r\n", "\r", "\t", "\x0b", "\x0c", "\x1c", "\x85", "\u2028", "\u00a0"]:
            self.refused(read_floor, text.replace("\n", wrong))
            self.refused(read_floor, text.replace(" ", wrong))

    def test_lines_in_another_order(self):
        lines = show_floor(THREE_FLOOR).split("\n")
        for some in itertools.permutations(lines):
            if list(some) == lines:
                self.assertEqual(read_floor("\n".join(some)), THREE_FLOOR)
            else:
                self.refused(read_floor, "\n".join(some))

    def test_signs_ahead_of_a_number_and_within(self):
        for place in range(4):
            for ahead in ["0", "00", "+", "-", "--", " ", "_", "0x"]:
                words = ["0", "0", "12", "12"]
                words[place] = ahead + words[place]
                self.refused(read_floor, "a " + " ".join(words))
        for number in ["1_2", "1.", "1.0", "1e1", "12L", "", "a", "True", "None", "-0", "+1", "\u0661", "\u00b2", "\uff11"]:
            self.refused(read_floor, "a 0 0 1 " + number)
            self.refused(read_floor, "a 0 0 " + number + " 1")
            self.refused(read_floor, "a " + number + " 0 1 1")

    def test_sixty_and_sixty_one_figures(self):
        for number in [10**59, 10**60 - 1, 10**30]:
            self.assertEqual(read_floor("a 0 0 1 " + str(number)), [("a", 0, 0, 1, number)])
            self.assertEqual(read_floor("a 0 0 " + str(number) + " 1"), [("a", 0, 0, number, 1)])
        for number in [10**60, 10**61 - 1, 10**61, 10**100]:
            self.refused(read_floor, "a 0 0 1 " + str(number))
            self.refused(read_floor, "a 0 0 " + str(number) + " 1")
        self.assertEqual(len(read_floor("a 0 0 " + "9" * 60 + " 1\nb 0 1 " + "9" * 60 + " 2")), 2)
        self.refused(read_floor, "a 0 0 " + "9" * 60 + " 1\nb " + "9" * 60 + " 0 1" + "0" * 60 + " 1")

    def test_long_texts(self):
        # Python by itself makes no number of more than 4300 figures.
        for count in [4300, 4301, 19000]:
            self.refused(read_floor, "a 0 0 1 " + "9" * count)
            self.refused(read_floor, "a 0 0 1 " + "0" * count + "1")
        for sign in " \na:~0":
            self.refused(read_floor, sign * 20000)
        self.refused(read_floor, "a 0 0 1 1\n" * 2000)
        self.refused(read_floor, "a" + " 1" * 9999)

    def test_lines_of_no_floor(self):
        for wrong in ["", "\n", " ", "a", "a ", "a 0", "a 0 0 1", "a 0 0 1 1 1", "0 0 1 1", "0 0 0 1 1", "a: 0 0 1 1"]:
            self.refused(read_floor, wrong)
        for wrong in ["a 0 0 0 1", "a 0 0 1 0", "a 1 0 2 1", "a 0 1 1 2", "a 1 1 0 0", "a 0 0 0 0", "a 0 1 1 1"]:
            self.refused(read_floor, wrong)
        for wrong in ["A 0 0 1 1", "north 0 0 1 1", "abcdefghi 0 0 1 1", " 0 0 1 1", "a1 0 0 1 1"]:
            self.refused(read_floor, wrong)
        for wrong in ["a 0 0 1 1\na 1 0 2 1", "a 0 0 2 1\nb 1 0 3 1", "a 0 0 1 1\nb 2 0 3 1", "a 0 0 1 1\na 0 0 1 1"]:
            self.refused(read_floor, wrong)
        self.refused(read_floor, show_floor(WHIRL_FLOOR[:4]))
        self.refused(read_floor, show_web(samples.WHIRL))
        self.assertEqual(len(read_floor("\n".join(f"{name} {k} 0 {k + 1} 1" for k, name in enumerate("abcdefgh")))), 8)
        self.refused(read_floor, "\n".join(f"{name} {k} 0 {k + 1} 1" for k, name in enumerate("abcdefghi")))

    def test_what_is_told_is_the_askers_own(self):
        text = show_floor(WHIRL_FLOOR)
        read_floor(text).clear()
        self.assertEqual(read_floor(text), WHIRL_FLOOR)


if __name__ == "__main__":
    unittest.main()
