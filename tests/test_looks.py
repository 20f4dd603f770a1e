"""Point 11: what looks tell; points 2 and 3 as far as they speak of looks."""

import unittest

from grope.errors import NoLook
from grope.looks import looked
from grope.rooms import Room
from grope.worlds import read_world, show_world
from helper import ROOM, SMALL, WIDE, WIDE_LINES, all_worlds


def all_looks(room):
    return ["feel hand"] + [f"{word} {place}" for word in ["feel", "try", "heft"] for place in room.places()]


def looked_for(room, line, world):
    """What a look tells, made straight from point 11."""
    word, name = line.split(" ")
    if line == "feel hand":
        return "-" if world[0] is None else room.shape_of(world[0])
    spot = room.places().index(name)
    heap, lid = list(world[1][spot]), world[2][spot]
    shapes = ["-"] + [room.shape_of(thing) for thing in heap]
    told = {
        "feel": shapes[-1] if lid == "open" else None,
        "try": lid if room.lidded(name) else None,
        "heft": None if lid == "open" else ("heavy" if heap else "light"),
    }
    return told[word] if world[0] is None else None


class LooksTest(unittest.TestCase):
    room = WIDE

    def tells(self, line, text, answer):
        with self.subTest(line=line, text=text):
            world = read_world(self.room, text)
            found = looked(self.room, line, world)
            self.assertEqual(found, answer)
            self.assertIs(found.__class__, answer.__class__)
            self.assertEqual(show_world(self.room, world), text)

    def cannot(self, line, text):
        self.tells(line, text, None)


class FeelHand(LooksTest):
    def test_a_held_thing(self):
        self.tells(
            "feel hand", "hand key; floor open; safe locked; bin shut; shelf open ball; chest open coin cube", "flat",
        )
        self.tells(
            "feel hand", "hand cube; floor open ball; safe open; bin open; shelf open key; chest open coin", "edged",
        )

    def test_a_free_hand(self):
        self.tells(
            "feel hand", "hand -; floor open; safe locked; bin shut; shelf open ball key; chest open coin cube", "-",
        )
        self.tells(
            "feel hand", "hand -; floor open ball key coin cube; safe open; bin open; shelf open; chest open", "-",
        )


class FeelPlace(LooksTest):
    text = "hand -; floor open coin ball; safe locked cube; bin shut key; shelf open; chest open"

    def test_the_highest_thing(self):
        self.tells("feel floor", self.text, "round")
        self.tells(
            "feel chest", "hand -; floor open coin; safe locked; bin shut key; shelf open; chest open ball cube",
            "edged",
        )
        self.tells(
            "feel shelf", "hand -; floor open; safe locked; bin shut key; shelf open ball cube coin; chest open",
            "flat",
        )

    def test_no_thing(self):
        self.tells("feel shelf", self.text, "-")
        self.tells("feel chest", self.text, "-")

    def test_needs_an_open_place(self):
        self.cannot("feel bin", self.text)
        self.cannot("feel safe", self.text)
        empty = "hand -; floor open coin ball cube key; safe locked; bin shut; shelf open; chest open"
        self.cannot("feel bin", empty)
        self.cannot("feel safe", empty)

    def test_needs_a_free_hand(self):
        text = "hand coin; floor open ball; safe locked cube; bin shut key; shelf open; chest open"
        for place in WIDE.places():
            self.cannot(f"feel {place}", text)


class TryPlace(LooksTest):
    def test_each_lid(self):
        self.tells(
            "try bin", "hand -; floor open coin ball; safe locked cube; bin shut key; shelf open; chest open", "shut",
        )
        self.tells(
            "try bin", "hand -; floor open coin ball; safe locked cube; bin open key; shelf open; chest open", "open",
        )
        for lid in ["open", "shut", "locked"]:
            self.tells(
                "try safe", f"hand -; floor open coin ball; safe {lid} cube; bin shut key; shelf open; chest open", lid,
            )
            self.tells(
                "try chest", f"hand -; floor open coin ball; safe shut cube key; bin shut; shelf open; chest {lid}",
                lid,
            )

    def test_needs_a_lid(self):
        text = "hand -; floor open coin ball; safe locked cube; bin shut key; shelf open; chest open"
        self.cannot("try floor", text)
        self.cannot("try shelf", text)

    def test_needs_a_free_hand(self):
        for hand, rest in [("coin", "key"), ("key", "coin")]:
            text = f"hand {hand}; floor open ball; safe locked cube; bin shut {rest}; shelf open; chest open"
            for place in WIDE.places():
                self.cannot(f"try {place}", text)


class Heft(LooksTest):
    text = "hand -; floor open coin ball; safe locked cube; bin shut key; shelf open; chest open"

    def test_heavy(self):
        self.tells("heft bin", self.text, "heavy")
        self.tells("heft safe", self.text, "heavy")
        self.tells(
            "heft chest", "hand -; floor open; safe locked; bin shut; shelf open; chest shut coin ball key cube",
            "heavy",
        )

    def test_light(self):
        text = "hand -; floor open coin ball cube key; safe locked; bin shut; shelf open; chest shut"
        for place in ["safe", "bin", "chest"]:
            self.tells(f"heft {place}", text, "light")

    def test_needs_a_place_that_is_not_open(self):
        for place in ["floor", "shelf", "chest"]:
            self.cannot(f"heft {place}", self.text)
        full = "hand -; floor open coin; safe locked cube; bin open key; shelf open; chest open ball"
        self.cannot("heft bin", full)
        self.cannot("heft chest", full)

    def test_needs_a_free_hand(self):
        text = "hand coin; floor open ball; safe locked cube; bin shut key; shelf open; chest shut"
        for place in WIDE.places():
            self.cannot(f"heft {place}", text)


class EachWorld(unittest.TestCase):
    def alike(self, room, worlds):
        for world in worlds:
            for line in all_looks(room):
                self.assertEqual(looked(room, line, world), looked_for(room, line, world), (line, world))

    def test_of_small_rooms(self):
        for room in SMALL + [ROOM]:
            self.alike(room, all_worlds(room))

    def test_some_of_a_wide_room(self):
        self.alike(WIDE, all_worlds(WIDE)[::97])

    def test_a_thing_called_none(self):
        room = Room(["place a", "thing none some"])
        self.assertEqual(looked(room, "feel hand", ("none", ((),), ("open",))), "some")
        self.assertIsNone(looked(room, "feel a", ("none", ((),), ("open",))))
        self.assertEqual(looked(room, "feel a", (None, (("none",),), ("open",))), "some")

    def test_the_room_stays(self):
        room = Room(WIDE_LINES)
        for world in all_worlds(WIDE)[::997]:
            for line in all_looks(WIDE):
                looked(room, line, world)
        self.assertEqual((room.places(), room.things()), (WIDE.places(), WIDE.things()))


class LinesRefused(unittest.TestCase):
    WORLDS = [
        read_world(ROOM, text) for text in [
            "hand -; floor open ball key; bin open coin; chest open",
            "hand -; floor open; bin shut ball key; chest locked coin",
            "hand key; floor open ball coin; bin open; chest shut",
        ]
    ]

    def refused(self, line, room=ROOM, worlds=None):
        for world in self.WORLDS if worlds is None else worlds:
            with self.subTest(line=line, world=world):
                before = show_world(room, world)
                with self.assertRaises(NoLook) as taken:
                    looked(room, line, world)
                self.assertIs(taken.exception.__class__, NoLook)
                self.assertEqual(show_world(room, world), before)

    def test_no_sign_and_blanks_alone(self):
        for line in ["", " ", "  ", "   "]:
            self.refused(line)

    def test_a_word_alone(self):
        for word in ["feel", "try", "heft", "hand", "floor"]:
            self.refused(word)
            self.refused(word + " ")
            self.refused(word + "  ")

    def test_a_name_that_is_no_places(self):
        for word in ["feel", "try", "heft"]:
            for name in ["ball", "key", "round", "flat", "attic", "-", "floo", "bins", "hands", "free", "feel", "None"]:
                self.refused(f"{word} {name}")

    def test_a_place_more(self):
        for word in ["feel", "try", "heft"]:
            for one in ROOM.places() + ["hand"]:
                for other in ROOM.places() + ["hand", "ball", "attic"]:
                    self.refused(f"{word} {one} {other}")

    def test_try_and_heft_of_the_hand(self):
        self.refused("try hand")
        self.refused("heft hand")

    def test_another_word(self):
        for word in ["look", "see", "fee", "feels", "weigh", "box", "not", "hand", "floor", "-", "tri", "hef"]:
            for name in ROOM.places() + ["hand"]:
                self.refused(f"{word} {name}")
        self.refused("floor feel")
        self.refused("hand feel")

    def test_a_deed(self):
        for word in ["take", "put", "toss", "open", "shut", "lock", "unlock", "shake"]:
            for place in ROOM.places() + ["hand"]:
                self.refused(f"{word} {place}")
        self.refused("tip floor bin")

    def test_a_great_letter(self):
        for line in all_looks(ROOM):
            for k in range(len(line)):
                if line[k] != " ":
                    self.refused(line[:k] + line[k].upper() + line[k + 1:])

    def test_a_blank_more(self):
        for line in all_looks(ROOM):
            for k in range(len(line) + 1):
                self.refused(line[:k] + " " + line[k:])
            self.refused(line.replace(" ", ""))

    def test_other_signs(self):
        for line in ["feel hand", "feel floor", "try bin", "heft chest"]:
            for sign in "\t\n;,.-_0":
                self.refused(line + sign)
                self.refused(sign + line)
                self.refused(line.replace(" ", sign))

    def test_long_lines(self):
        self.refused("feel " + "a" * 295)
        self.refused("a" * 300)
        self.refused("feel" + " floor" * 49)

    def test_a_line_of_another_room(self):
        room = SMALL[2]
        for world in all_worlds(room):
            for line in all_looks(ROOM)[1:] + ["feel ab", "try u", "heft v", "feel s"]:
                self.refused(line, room, [world])


if __name__ == "__main__":
    unittest.main()
