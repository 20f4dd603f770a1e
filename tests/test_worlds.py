"""Points 7 to 9: worlds, their texts, and the changes between them; points 2 and 3 as far as they speak of these."""

import unittest

from grope.errors import NoWorld
from grope.rooms import Room
from grope.worlds import changes, read_world, show_world
from helper import ROOM, all_worlds

# Each world beside its text, written by hand.
SHOWN = [
    (
        (None, (("ball", "key"), (), ("coin",)), ("open", "shut", "locked")),
        "hand -; floor open ball key; bin shut; chest locked coin",
    ),
    (
        (None, (("key", "ball"), (), ("coin",)), ("open", "shut", "locked")),
        "hand -; floor open key ball; bin shut; chest locked coin",
    ),
    (
        ("key", ((), ("coin", "ball"), ()), ("open", "open", "shut")),
        "hand key; floor open; bin open coin ball; chest shut",
    ),
    (
        (None, ((), (), ("coin", "key", "ball")), ("open", "open", "open")),
        "hand -; floor open; bin open; chest open coin key ball",
    ),
    (
        ("coin", (("ball",), ("key",), ()), ("open", "shut", "open")),
        "hand coin; floor open ball; bin shut key; chest open",
    ),
]


class WorldsShown(unittest.TestCase):
    def test_by_hand(self):
        for world, text in SHOWN:
            with self.subTest(text=text):
                self.assertEqual(show_world(ROOM, world), text)

    def test_one_place_and_no_thing(self):
        room = Room(["place a"])
        self.assertEqual(show_world(room, (None, ((),), ("open",))), "hand -; a open")

    def test_a_thing_called_none_is_no_free_hand(self):
        room = Room(["place a", "thing none s"])
        self.assertEqual(show_world(room, ("none", ((),), ("open",))), "hand none; a open")
        self.assertEqual(read_world(room, "hand none; a open"), ("none", ((),), ("open",)))
        self.assertEqual(read_world(room, "hand -; a open none"), (None, (("none",),), ("open",)))

    def test_places_stand_in_the_rooms_order(self):
        room = Room(["thing u s", "place z", "place a", "box m u"])
        world = (None, ((), ("u",), ()), ("open", "open", "locked"))
        self.assertEqual(show_world(room, world), "hand -; z open; a open u; m locked")

    def test_each_text_is_a_worlds_own(self):
        worlds = all_worlds(ROOM)
        self.assertEqual(len({show_world(ROOM, world) for world in worlds}), len(worlds))


class WorldsRead(unittest.TestCase):
    def alike(self, room, world, text):
        back = read_world(room, text)
        self.assertEqual(back, world)
        self.assertIs(back.__class__, tuple)
        self.assertEqual([part.__class__ for part in back[1:]], [tuple, tuple])
        for heap in back[1]:
            self.assertIs(heap.__class__, tuple)
        for word in [word for heap in back[1] for word in heap] + list(back[2]):
            self.assertIs(word.__class__, str)
        self.assertEqual(show_world(room, back), text)

    def test_by_hand(self):
        for world, text in SHOWN:
            with self.subTest(text=text):
                self.alike(ROOM, world, text)

    def test_each_world_of_small_rooms(self):
        for lines in [
            ["place a"],
            ["place a", "thing u s"],
            ["place a", "box b", "thing u s"],
            ["place a", "box b u", "thing u s", "thing v u"],
            ["place a", "place ab", "box abc", "box abcd u", "thing u s", "thing uu s"],
        ]:
            room = Room(lines)
            for world in all_worlds(room):
                self.alike(room, world, show_world(room, world))
        for world in all_worlds(ROOM):
            self.alike(ROOM, world, show_world(ROOM, world))

    def test_the_fullest_room(self):
        room = Room(
            ["place aaaaaaaa"] + [f"box {name * 8} uuuuuuuu" for name in "bcdef"]
            + [f"thing {name * 8} shape" for name in "uvwxyz"]
        )
        heap = tuple(name * 8 for name in "zyxwvu")
        lids = ("open", "locked", "shut", "open", "locked", "locked")
        self.alike(
            room, (None, ((), (), (), (), (), heap), lids),
            "hand -; aaaaaaaa open; bbbbbbbb locked; cccccccc shut; dddddddd open; eeeeeeee locked; ffffffff locked "
            "zzzzzzzz yyyyyyyy xxxxxxxx wwwwwwww vvvvvvvv uuuuuuuu",
        )

    def test_the_key_may_lie_in_its_own_locked_box(self):
        text = "hand -; floor open; bin open; chest locked key ball coin"
        self.alike(ROOM, (None, ((), (), ("key", "ball", "coin")), ("open", "open", "locked")), text)


class TextsRefused(unittest.TestCase):
    def refused(self, text, room=ROOM):
        with self.subTest(text=text):
            with self.assertRaises(NoWorld):
                read_world(room, text)

    def test_things_that_are_wrong(self):
        self.refused("hand -; floor open ball key; bin shut; chest locked")
        self.refused("hand key; floor open ball; bin shut; chest locked")
        self.refused("hand -; floor open ball key ball; bin shut; chest locked coin")
        self.refused("hand -; floor open ball key; bin shut coin; chest locked coin")
        self.refused("hand -; floor open ball ball; bin shut; chest locked coin")
        self.refused("hand key; floor open ball key; bin shut; chest locked coin")
        self.refused("hand key; floor open ball; bin shut key; chest locked coin")
        self.refused("hand -; floor open ball key cube; bin shut; chest locked coin")
        self.refused("hand -; floor open ball cube; bin shut; chest locked coin")
        self.refused("hand -; floor open ball key; bin shut -; chest locked coin")
        self.refused("hand -; floor open ball key; bin shut floor; chest locked coin")
        self.refused("hand -; floor open round flat; bin shut; chest locked flat")
        self.refused("hand -; floor open Ball key; bin shut; chest locked coin")
        self.refused("hand -; floor open bal key; bin shut; chest locked coin")

    def test_places_that_are_wrong(self):
        self.refused("hand -; bin shut; floor open ball key; chest locked coin")
        self.refused("hand -; floor open ball key; chest locked coin; bin shut")
        self.refused("hand -; bin open; floor open ball key; chest locked coin")
        self.refused("hand -; floor open ball key; floor open; chest locked coin")
        self.refused("hand -; ground open ball key; bin shut; chest locked coin")
        self.refused("hand -; flo open ball key; bin shut; chest locked coin")
        self.refused("hand -; floor open; key open ball; chest locked coin")
        self.refused("floor open ball key; bin shut; chest locked coin; hand -")
        self.refused("floor open ball key; hand -; bin shut; chest locked coin")

    def test_lids_that_are_wrong(self):
        self.refused("hand -; floor shut ball key; bin shut; chest locked coin")
        self.refused("hand -; floor locked ball key; bin shut; chest locked coin")
        self.refused("hand -; floor open ball key; bin locked; chest locked coin")
        for word in ["bare", "Open", "opened", "ope", "-", "closed", "lock", "", "key", "bin", "free"]:
            self.refused(f"hand -; floor {word} ball key; bin shut; chest locked coin")
            self.refused(f"hand -; floor open ball key; bin {word}; chest locked coin")
            self.refused(f"hand -; floor open ball key; bin shut; chest {word} coin")
        self.refused("hand -; floor ball key; bin shut; chest locked coin")
        self.refused("hand -; floor open ball key; bin; chest locked coin")
        self.refused("hand -; floor open ball key; bin shut; chest coin")
        self.refused("hand -; floor open ball key; bin shut shut; chest locked coin")
        self.refused("hand -; floor open open ball key; bin shut; chest locked coin")

    def test_a_hand_that_is_wrong(self):
        rest = "; floor open ball key; bin shut; chest locked coin"
        self.assertEqual(read_world(ROOM, "hand -" + rest), SHOWN[0][0])
        for part in [
            "hand", "hand ", "hand - -", "hand - ball", "hand -  ", "Hand -", "hands -", "-", "", "hand cube",
            "hand ball", "hand coin", "hand floor", "hand open", "hand --", "hand None", "hand none", "hand free",
        ]:
            self.refused(part + rest)
        less = "; floor open ball; bin shut; chest locked coin"
        self.assertEqual(read_world(ROOM, "hand key" + less)[0], "key")
        for part in ["hand -", "hand", "hand key -", "hand key key", "hand - key", "hand cube", "hand ke", "key"]:
            self.refused(part + less)

    def test_parts_more_or_less(self):
        text = SHOWN[0][1]
        self.refused("")
        self.refused(" ")
        self.refused("-")
        self.refused("; ")
        self.refused("; ; ; ")
        self.refused("hand -")
        self.refused("hand -; floor open ball key coin")
        self.refused("hand -; floor open ball key coin; bin shut")
        self.refused(text + "; ")
        self.refused(text + ";")
        self.refused("; " + text)
        self.refused(text + "; attic open")
        self.refused(text + "; chest locked")
        self.refused("hand -; " + text)
        self.refused(text.replace("; bin", "; ; bin"))

    def test_blanks_that_are_wrong(self):
        for world, text in SHOWN:
            for k in range(len(text) + 1):
                self.refused(text[:k] + " " + text[k:])
                if k < len(text) and text[k] == " ":
                    self.refused(text[:k] + text[k + 1:])
                    self.refused(text[:k] + "\t" + text[k + 1:])
            self.refused(text + "\n")

    def test_a_text_of_another_room(self):
        other = Room(["place floor", "box bin", "box chest", "thing ball round", "thing key flat", "thing coin flat"])
        self.refused("hand -; floor open ball key; bin shut; chest locked coin", other)
        self.assertEqual(read_world(other, "hand -; floor open ball key; bin shut; chest shut coin")[2][2], "shut")

    def test_texts_one_sign_or_one_word_away(self):
        room = Room(["place a", "box b u", "thing u s", "thing v s"])
        worlds = {show_world(room, world): world for world in all_worlds(room)}
        for text in sorted(worlds):
            for other in sorted(set(beside(text))):
                if other in worlds:
                    self.assertEqual(read_world(room, other), worlds[other])
                else:
                    self.refused(other, room)


def beside(text):
    words = text.split(" ")
    for k in range(len(text) + 1):
        yield text[:k] + text[k + 1:]
        for sign in " ;-uvx":
            yield text[:k] + sign + text[k:]
            yield text[:k] + sign + text[k + 1:]
    for k in range(len(words)):
        yield " ".join(words[:k] + words[k + 1:])
        yield " ".join(words[:k] + words[k:k + 1] * 2 + words[k + 1:])
        for word in ["hand", "-;", "a", "b", "u", "v", "u;", "v;", "open", "open;", "shut", "locked"]:
            yield " ".join(words[:k] + [word] + words[k + 1:])
        for j in range(k):
            yield " ".join(words[:j] + [words[k]] + words[j + 1:k] + [words[j]] + words[k + 1:])


class Changes(unittest.TestCase):
    START = (None, (("ball", "key"), (), ("coin",)), ("open", "shut", "locked"))

    def told(self, other, many):
        with self.subTest(other=other):
            for found in [changes(self.START, other), changes(other, self.START)]:
                self.assertEqual(found, many)
                self.assertIs(found.__class__, int)

    def test_alike(self):
        self.told(self.START, 0)
        self.told((None, (("ball", "key"), (), ("coin",)), ("open", "shut", "locked")), 0)
        self.assertEqual(changes((None, ((),), ("open",)), (None, ((),), ("open",))), 0)

    def test_each_heap_by_itself(self):
        self.told((None, (("key", "ball"), (), ("coin",)), ("open", "shut", "locked")), 1)
        self.told((None, (("ball",), ("key",), ("coin",)), ("open", "shut", "locked")), 2)
        self.told((None, (("ball",), ("coin",), ("key",)), ("open", "shut", "locked")), 3)

    def test_each_lid_by_itself(self):
        self.told((None, (("ball", "key"), (), ("coin",)), ("open", "open", "locked")), 1)
        self.told((None, (("ball", "key"), (), ("coin",)), ("open", "shut", "shut")), 1)
        self.told((None, (("ball", "key"), (), ("coin",)), ("open", "open", "open")), 2)

    def test_the_hand(self):
        self.told(("key", (("ball",), (), ("coin",)), ("open", "shut", "locked")), 2)
        self.assertEqual(changes(
            ("ball", (("key",), (), ("coin",)), ("open", "shut", "locked")),
            ("coin", (("key",), (), ("coin",)), ("open", "shut", "locked")),
        ), 1)

    def test_all_at_once(self):
        self.told(("coin", (("key", "ball"), (), ()), ("open", "open", "open")), 5)
        self.told(("coin", ((), ("ball",), ("key",)), ("open", "open", "shut")), 6)

    def test_counted_again_over_many_pairs(self):
        worlds = all_worlds(ROOM)[::7]
        for one in worlds:
            for other in worlds[::5]:
                flat = list(zip((one[0],) + one[1] + one[2], (other[0],) + other[1] + other[2]))
                many = sum(1 for mine, theirs in flat if mine != theirs)
                self.assertEqual(changes(one, other), many)
                self.assertEqual(changes(other, one), many)
                self.assertEqual(many == 0, one == other)


if __name__ == "__main__":
    unittest.main()
