"""Points 5 and 6: names, and the lines of rooms; points 2 and 3 as far as they speak of rooms."""

import itertools
import unittest

from grope.errors import NoName, NoRoom
from grope.rooms import Room

NO_NAMES = "and or not while in on top held open shut locked bare free hand".split(" ")

LINES = [
    "thing ball round",
    "place floor",
    "box bin",
    "box chest key",
    "thing key flat",
    "place shelf",
    "box safe key",
    "thing coin flat",
]
PLACES = ["floor", "bin", "chest", "shelf", "safe"]
THINGS = ["ball", "key", "coin"]
KEYS = {"floor": None, "bin": None, "chest": "key", "shelf": None, "safe": "key"}
LIDDED = {"floor": False, "bin": True, "chest": True, "shelf": False, "safe": True}
SHAPES = {"ball": "round", "key": "flat", "coin": "flat"}

# Signs right beside `a` to `z`, small letters beyond ASCII, and what else stands in texts.
STRANGE_SIGNS = "`{AZ@[/0:9-_;.,!~'\"\t\n\u00e9\u00df\u0131\u03b1"


def told(room):
    places = room.places()
    things = room.things()
    return (
        places,
        things,
        {place: room.lidded(place) for place in places},
        {place: room.key_of(place) for place in places},
        {thing: room.shape_of(thing) for thing in things},
    )


class RoomsTold(unittest.TestCase):
    def test_a_room_of_each_kind_of_line(self):
        self.assertEqual(told(Room(LINES)), (PLACES, THINGS, LIDDED, KEYS, SHAPES))

    def test_lidded_tells_truths(self):
        room = Room(LINES)
        self.assertIs(room.lidded("floor"), False)
        self.assertIs(room.lidded("bin"), True)
        self.assertIs(room.lidded("chest"), True)

    def test_lines_in_all_orders(self):
        lines = ["place floor", "box bin", "box chest key", "thing key flat", "thing floo floor"]
        names = [line.split(" ")[1] for line in lines]
        for order in itertools.permutations(range(5)):
            ordered = [lines[k] for k in order]
            kinds = [line.split(" ")[0] for line in ordered if not line.startswith("thing")]
            with self.subTest(lines=ordered):
                if kinds[0] == "box":
                    with self.assertRaises(NoRoom):
                        Room(ordered)
                    continue
                places = [names[k] for k in order if k < 3]
                things = [names[k] for k in order if k >= 3]
                keys = {"floor": None, "bin": None, "chest": "key"}
                lidded = {"floor": False, "bin": True, "chest": True}
                shapes = {"key": "flat", "floo": "floor"}
                self.assertEqual(told(Room(ordered)), (places, things, lidded, keys, shapes))

    def test_one_place_and_no_thing(self):
        self.assertEqual(told(Room(["place a"])), (["a"], [], {"a": False}, {"a": None}, {}))

    def test_each_number_of_places_and_things(self):
        for places in range(1, 7):
            for things in range(0, 7):
                with self.subTest(places=places, things=things):
                    room = Room(many_lines(places, things))
                    self.assertEqual(room.places(), list("abcdef")[:places])
                    self.assertEqual(room.things(), list("uvwxyz")[:things])

    def test_boxes_count_as_places(self):
        room = Room(["place a"] + [f"box {name}" for name in "bcdef"])
        self.assertEqual(room.places(), list("abcdef"))
        with self.assertRaises(NoRoom):
            Room(["place a"] + [f"box {name}" for name in "bcdefg"])

    def test_the_key_of_every_box(self):
        room = Room(["place a"] + [f"box {name} k" for name in "bcdef"] + ["thing k l"])
        self.assertEqual([room.key_of(place) for place in room.places()], [None, "k", "k", "k", "k", "k"])

    def test_a_shape_may_be_the_name_of_something(self):
        room = Room(["place floor", "thing ball floor", "thing cube ball", "thing ring ring", "thing rod ball"])
        self.assertEqual([room.shape_of(thing) for thing in room.things()], ["floor", "ball", "ring", "ball"])

    def test_names_that_are_beginnings_of_one_another(self):
        room = Room(["place a", "box ab abc", "box abcd", "thing abc abcde", "thing abcdef a", "thing abcdefgh ab"])
        self.assertEqual(room.places(), ["a", "ab", "abcd"])
        self.assertEqual(room.things(), ["abc", "abcdef", "abcdefgh"])
        self.assertEqual([room.key_of(place) for place in room.places()], [None, "abc", None])
        self.assertEqual([room.shape_of(thing) for thing in room.things()], ["abcde", "a", "ab"])

    def test_each_small_letter_may_stand_in_a_name(self):
        room = Room(["place abcdefgh", "box ijklmnop qrstuvwx", "thing qrstuvwx yz", "thing y z"])
        self.assertEqual(room.places(), ["abcdefgh", "ijklmnop"])
        self.assertEqual(room.things(), ["qrstuvwx", "y"])
        self.assertEqual(room.shape_of("qrstuvwx"), "yz")

    def test_words_of_lines_may_be_names(self):
        room = Room(["place place", "box box thing", "thing thing box", "thing none key"])
        self.assertEqual((room.places(), room.things()), (["place", "box"], ["thing", "none"]))
        self.assertEqual((room.key_of("box"), room.shape_of("thing")), ("thing", "box"))

    def test_names_that_hold_or_lengthen_a_word_that_is_none(self):
        for word in NO_NAMES:
            for name in [word + "x", "x" + word, word[:-1] + "x", word[0]]:
                with self.subTest(name=name):
                    self.assertEqual(Room([f"place {name}"]).places(), [name])


class CopiesOfWhatIsTold(unittest.TestCase):
    def test_lines_are_copied_and_not_changed(self):
        lines = list(LINES)
        room = Room(lines)
        self.assertEqual(lines, LINES)
        lines[1] = "place ground"
        lines.append("thing more round")
        self.assertEqual(told(room), (PLACES, THINGS, LIDDED, KEYS, SHAPES))
        lines.clear()
        self.assertEqual(told(room), (PLACES, THINGS, LIDDED, KEYS, SHAPES))

    def test_lists_that_were_told_are_the_askers_own(self):
        room = Room(LINES)
        places = room.places()
        things = room.things()
        other = room.places()
        places.append("attic")
        places[0] = "cellar"
        things.clear()
        self.assertEqual(other, PLACES)
        self.assertEqual(told(room), (PLACES, THINGS, LIDDED, KEYS, SHAPES))
        with self.assertRaises(NoName):
            room.lidded("attic")
        self.assertEqual(places[0], "cellar")
        self.assertEqual(things, [])

    def test_rooms_share_nothing(self):
        one = Room(["place a", "thing u v"])
        other = Room(LINES)
        self.assertEqual(told(one), (["a"], ["u"], {"a": False}, {"a": None}, {"u": "v"}))
        self.assertEqual(told(other), (PLACES, THINGS, LIDDED, KEYS, SHAPES))

    def test_what_is_refused_changes_nothing(self):
        room = Room(LINES)
        for name in ["nothing", "ball", ""]:
            with self.assertRaises(NoName):
                room.lidded(name)
            with self.assertRaises(NoName):
                room.key_of(name)
        with self.assertRaises(NoName):
            room.shape_of("floor")
        lines = ["place a", "box b k"]
        with self.assertRaises(NoRoom):
            Room(lines)
        self.assertEqual(lines, ["place a", "box b k"])
        self.assertEqual(told(room), (PLACES, THINGS, LIDDED, KEYS, SHAPES))


class NamesOfNone(unittest.TestCase):
    def test_no_place(self):
        room = Room(LINES)
        for name in ["attic", "floo", "floors", "Floor", "floor ", "", "-", "open", "round", "ball", "key", "coin"]:
            with self.subTest(name=name):
                with self.assertRaises(NoName):
                    room.lidded(name)
                with self.assertRaises(NoName):
                    room.key_of(name)

    def test_no_thing(self):
        room = Room(LINES)
        for name in ["cube", "bal", "balls", "Ball", " ball", "", "-", "hand", "round", "flat"] + PLACES:
            with self.subTest(name=name):
                with self.assertRaises(NoName):
                    room.shape_of(name)


def many_lines(places, things):
    return [f"place {name}" for name in "abcdefghi"[:places]] + [f"thing {name} s" for name in "uvwxyzrt"[:things]]


class LinesRefused(unittest.TestCase):
    def refused(self, lines):
        with self.subTest(lines=lines):
            with self.assertRaises(NoRoom):
                Room(lines)

    def test_a_name_told_twice(self):
        self.refused(["place a", "place a"])
        self.refused(["place a", "box a"])
        self.refused(["place a", "box b", "box b"])
        self.refused(["place a", "box b", "place c", "box b k", "thing k s"])
        self.refused(["place a", "thing u s", "thing u s"])
        self.refused(["place a", "thing u s", "thing v s", "thing u t"])
        self.refused(["place a", "thing a s"])
        self.refused(["thing a s", "place a"])
        self.refused(["place a", "box b", "thing b s"])
        self.refused(["place a", "thing b s", "box b b"])

    def test_what_is_no_name(self):
        signs = [beside for sign in STRANGE_SIGNS for beside in (sign, sign + "a", "a" + sign, "a" + sign + "b")]
        for word in NO_NAMES + ["abcdefghi", "aaaaaaaaaaaaaaaa", "", "-"] + signs:
            self.refused([f"place {word}"])
            self.refused(["place a", f"place {word}"])
            self.refused(["place a", f"box {word}"])
            self.refused(["place a", f"box {word} k", "thing k s"])
            self.refused(["place a", f"thing {word} s"])
            self.refused(["place a", f"thing u {word}"])
            self.refused(["place a", f"box b {word}", "thing k s"])
            self.refused(["place a", f"box b {word}", f"thing {word} s"])

    def test_a_key_that_is_no_thing(self):
        self.refused(["place a", "box b k"])
        self.refused(["place a", "box b k", "thing u k"])
        self.refused(["place a", "box b a", "thing k s"])
        self.refused(["place a", "box b b", "thing k s"])
        self.refused(["place a", "box b c", "place c", "thing k s"])
        self.refused(["place a", "box b k", "box c l", "thing k s"])
        self.refused(["place a", "box b l", "box c k", "thing k s"])
        self.refused(["place a", "box b ke", "thing key s"])

    def test_a_box_ahead_of_the_first_place(self):
        self.refused(["box b", "place a"])
        self.refused(["box b k", "place a", "thing k s"])
        self.refused(["thing k s", "box b k", "place a"])
        self.refused(["box b"])
        self.refused(["thing k s", "box b k"])

    def test_bounds_of_places_and_things(self):
        self.refused([])
        self.refused(["thing u s"])
        self.refused(many_lines(0, 6))
        self.refused(many_lines(7, 0))
        self.refused(many_lines(8, 3))
        self.refused(many_lines(1, 7))
        self.refused(many_lines(6, 8))
        self.refused(many_lines(7, 7))
        self.refused(many_lines(6, 0) + ["box x"])
        self.refused(many_lines(6, 1) + ["box x u"])

    def test_blanks_that_are_wrong(self):
        good = ["place a", "box b", "box c k", "thing k s"]
        self.assertEqual(Room(good).places(), ["a", "b", "c"])
        for k, line in enumerate(good):
            for place in range(len(line) + 1):
                if place in (0, len(line)) or line[place] == " ":
                    self.refused(good[:k] + [line[:place] + " " + line[place:]] + good[k + 1:])
            self.refused(good[:k] + [line.replace(" ", "\t")] + good[k + 1:])
            self.refused(good[:k] + [line.replace(" ", "")] + good[k + 1:])
            self.refused(good[:k] + [line + "\n"] + good[k + 1:])

    def test_words_more_or_less(self):
        for line in [
            "place", "place b c", "place b k", "box", "box b k k", "box b k s", "thing", "thing u", "thing u s s",
            "thing u s k", "place ", "box ", "thing ", "box b ", "thing u ",
        ]:
            self.refused(["place a", "thing k s", line])
            self.refused(["place a", line, "thing k s"])

    def test_another_first_word_or_none(self):
        for line in [
            "", " ", "  ", "b", "b c", "places b", "Place b", "PLACE b", "plac b", "boxes b", "Box b", "things u s",
            "Thing u s", "key k s", "room b", "floor b", "-", "place; b", "place-b", "place,b",
        ]:
            self.refused(["place a", line])
            self.refused([line, "place a"])


if __name__ == "__main__":
    unittest.main()
