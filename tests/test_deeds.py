"""Points 10 and 7: what deeds make of worlds; points 2 and 3 as far as they speak of deeds."""

import unittest

from grope.deeds import turns
from grope.errors import NoDeed
from grope.rooms import Room
from grope.worlds import read_world, show_world
from helper import ROOM, SMALL, WIDE, WIDE_LINES, all_worlds

WORDS = ["take", "put", "toss", "open", "shut", "lock", "unlock", "shake"]


def all_deeds(room):
    places = room.places()
    lines = [f"{word} {place}" for word in WORDS for place in places]
    return lines + [f"tip {one} {other}" for one in places for other in places if one != other]


def looked_for(room, line, world):
    """What may come of a deed, made straight from point 10, on heaps that are changed in place."""
    words = line.split(" ")
    lids = dict(zip(room.places(), world[2]))
    key = room.key_of(words[1])
    held = world[0]
    lid = lids[words[1]]
    many = len(dict(zip(room.places(), world[1]))[words[1]])
    needs = {
        "take": held is None and lid == "open" and many >= 1,
        "put": held is not None and lid == "open",
        "toss": held is not None and lid == "open",
        "open": held is None and lid == "shut",
        "shut": held is None and lid == "open" and room.lidded(words[1]),
        "lock": key is not None and held == key and lid == "shut",
        "unlock": key is not None and held == key and lid == "locked",
        "tip": held is None and lid == "open" and many >= 1 and lids[words[-1]] == "open",
        "shake": held is None and lid != "open" and many >= 2,
    }
    if not needs[words[0]]:
        return []
    return [done(room, words, end, world) for end in ends_of(room, words)]


def ends_of(room, words):
    if words[0] == "shake":
        return ["still", "moved"]
    if words[0] == "toss" and words[1] != room.places()[0]:
        return [words[1], room.places()[0]]
    return [words[1]]


def done(room, words, end, world):
    held = world[0]
    heaps = {place: list(heap) for place, heap in zip(room.places(), world[1])}
    lids = dict(zip(room.places(), world[2]))
    heap = heaps[words[1]]
    if words[0] == "take":
        held = heap.pop()
    if words[0] in ["put", "toss"]:
        heaps[end].append(held)
        held = None
    if words[0] == "tip":
        while heap:
            heaps[words[2]].append(heap.pop())
    if words[0] == "shake" and end == "moved":
        heap.append(heap.pop(-2))
    after = {"open": "open", "shut": "shut", "lock": "locked", "unlock": "shut"}
    lids[words[1]] = after.get(words[0], lids[words[1]])
    return (held, tuple(map(tuple, heaps.values())), tuple(lids.values()))


def order_of(world):
    return (world[0] or "", world[1], world[2])


class DeedsTest(unittest.TestCase):
    """Worlds are told as texts: the one before, and those that may come, in any order, each once."""

    room = WIDE

    def comes(self, line, before, *behind):
        with self.subTest(line=line, before=before):
            world = read_world(self.room, before)
            found = turns(self.room, line, world)
            self.assertIs(found.__class__, list)
            self.assertEqual(sorted(show_world(self.room, one) for one in found), sorted(behind))
            for one in found:
                self.assertEqual(read_world(self.room, show_world(self.room, one)), one)
            self.assertEqual(show_world(self.room, world), before)

    def cannot(self, line, before):
        self.comes(line, before)


class Take(DeedsTest):
    def test_the_highest_goes_to_the_hand(self):
        self.comes(
            "take floor", "hand -; floor open ball key; safe locked; bin shut coin; shelf open cube; chest shut",
            "hand key; floor open ball; safe locked; bin shut coin; shelf open cube; chest shut",
        )

    def test_the_only_one(self):
        self.comes(
            "take shelf", "hand -; floor open ball key; safe locked; bin shut coin; shelf open cube; chest shut",
            "hand cube; floor open ball key; safe locked; bin shut coin; shelf open; chest shut",
        )

    def test_out_of_an_open_box(self):
        self.comes(
            "take chest", "hand -; floor open; safe locked; bin shut; shelf open; chest open key coin cube ball",
            "hand ball; floor open; safe locked; bin shut; shelf open; chest open key coin cube",
        )

    def test_needs_a_free_hand(self):
        self.cannot("take floor", "hand cube; floor open ball key; safe locked; bin shut coin; shelf open; chest shut")

    def test_needs_an_open_place(self):
        self.cannot("take bin", "hand -; floor open ball key; safe locked cube; bin shut coin; shelf open; chest shut")
        self.cannot("take safe", "hand -; floor open ball key; safe locked cube; bin shut coin; shelf open; chest shut")

    def test_needs_a_thing_there(self):
        self.cannot(
            "take shelf", "hand -; floor open ball key; safe locked cube; bin open coin; shelf open; chest open",
        )
        self.cannot(
            "take chest", "hand -; floor open ball key; safe locked cube; bin open coin; shelf open; chest open",
        )


class Put(DeedsTest):
    def test_onto_a_heap(self):
        self.comes(
            "put floor", "hand coin; floor open ball key; safe locked; bin shut; shelf open cube; chest shut",
            "hand -; floor open ball key coin; safe locked; bin shut; shelf open cube; chest shut",
        )

    def test_onto_an_empty_place(self):
        self.comes(
            "put shelf", "hand coin; floor open ball key; safe locked; bin shut; shelf open; chest shut cube",
            "hand -; floor open ball key; safe locked; bin shut; shelf open coin; chest shut cube",
        )

    def test_into_an_open_box(self):
        self.comes(
            "put safe", "hand key; floor open; safe open coin ball; bin shut; shelf open cube; chest locked",
            "hand -; floor open; safe open coin ball key; bin shut; shelf open cube; chest locked",
        )

    def test_needs_a_held_thing(self):
        self.cannot("put floor", "hand -; floor open ball key coin; safe locked; bin shut; shelf open cube; chest shut")
        self.cannot("put bin", "hand -; floor open ball key coin; safe locked; bin open; shelf open cube; chest shut")

    def test_needs_an_open_place(self):
        self.cannot("put bin", "hand coin; floor open ball key; safe locked; bin shut; shelf open cube; chest shut")
        self.cannot("put safe", "hand key; floor open ball coin; safe locked; bin shut; shelf open cube; chest shut")


class Toss(DeedsTest):
    def test_onto_another_place_in_two_ways(self):
        self.comes(
            "toss shelf", "hand coin; floor open ball key; safe locked; bin shut; shelf open cube; chest shut",
            "hand -; floor open ball key; safe locked; bin shut; shelf open cube coin; chest shut",
            "hand -; floor open ball key coin; safe locked; bin shut; shelf open cube; chest shut",
        )

    def test_into_an_open_box_with_an_empty_floor(self):
        self.comes(
            "toss chest", "hand key; floor open; safe locked; bin shut; shelf open cube ball coin; chest open",
            "hand -; floor open; safe locked; bin shut; shelf open cube ball coin; chest open key",
            "hand -; floor open key; safe locked; bin shut; shelf open cube ball coin; chest open",
        )

    def test_onto_the_floor_in_one_way(self):
        self.comes(
            "toss floor", "hand coin; floor open ball key; safe locked; bin shut; shelf open cube; chest shut",
            "hand -; floor open ball key coin; safe locked; bin shut; shelf open cube; chest shut",
        )

    def test_needs_a_held_thing(self):
        for place in ["floor", "shelf", "bin"]:
            self.cannot(
                f"toss {place}", "hand -; floor open ball key; safe locked; bin open coin; shelf open cube; chest shut",
            )

    def test_needs_an_open_place(self):
        for place in ["bin", "safe"]:
            self.cannot(
                f"toss {place}", "hand key; floor open ball; safe locked coin; bin shut; shelf open cube; chest open",
            )


class Tip(DeedsTest):
    def test_onto_an_empty_heap(self):
        self.comes(
            "tip floor shelf", "hand -; floor open ball key coin; safe locked; bin shut; shelf open; chest open cube",
            "hand -; floor open; safe locked; bin shut; shelf open coin key ball; chest open cube",
        )

    def test_onto_a_full_one(self):
        self.comes(
            "tip chest floor", "hand -; floor open ball key; safe locked; bin shut; shelf open; chest open cube coin",
            "hand -; floor open ball key coin cube; safe locked; bin shut; shelf open; chest open",
        )

    def test_back_again(self):
        self.comes(
            "tip floor chest", "hand -; floor open ball key coin cube; safe locked; bin shut; shelf open; chest open",
            "hand -; floor open; safe locked; bin shut; shelf open; chest open cube coin key ball",
        )

    def test_of_one_thing(self):
        self.comes(
            "tip bin safe", "hand -; floor open ball key; safe open coin; bin open cube; shelf open; chest locked",
            "hand -; floor open ball key; safe open coin cube; bin open; shelf open; chest locked",
        )

    def test_needs_a_free_hand(self):
        self.cannot(
            "tip floor shelf", "hand cube; floor open ball key coin; safe locked; bin shut; shelf open; chest open",
        )

    def test_needs_both_open(self):
        before = "hand -; floor open ball; safe locked key; bin shut cube; shelf open; chest open coin"
        for line in ["tip floor bin", "tip floor safe", "tip bin floor", "tip safe shelf", "tip bin safe"]:
            self.cannot(line, before)

    def test_needs_a_thing_in_the_first(self):
        before = "hand -; floor open ball; safe locked key; bin shut cube; shelf open; chest open coin"
        self.cannot("tip shelf floor", before)
        self.cannot("tip shelf chest", before)


class Shake(DeedsTest):
    def test_of_a_shut_place_with_two_things(self):
        self.comes(
            "shake bin", "hand -; floor open key; safe locked; bin shut ball coin; shelf open cube; chest shut",
            "hand -; floor open key; safe locked; bin shut ball coin; shelf open cube; chest shut",
            "hand -; floor open key; safe locked; bin shut coin ball; shelf open cube; chest shut",
        )

    def test_of_a_locked_place_with_two_things(self):
        self.comes(
            "shake safe", "hand -; floor open; safe locked key cube; bin shut; shelf open coin ball; chest shut",
            "hand -; floor open; safe locked key cube; bin shut; shelf open coin ball; chest shut",
            "hand -; floor open; safe locked cube key; bin shut; shelf open coin ball; chest shut",
        )

    def test_of_more_things_only_the_two_highest_change_places(self):
        self.comes(
            "shake bin", "hand -; floor open key; safe locked; bin shut ball coin cube; shelf open; chest shut",
            "hand -; floor open key; safe locked; bin shut ball coin cube; shelf open; chest shut",
            "hand -; floor open key; safe locked; bin shut ball cube coin; shelf open; chest shut",
        )
        self.comes(
            "shake chest", "hand -; floor open; safe locked; bin shut; shelf open; chest locked key ball coin cube",
            "hand -; floor open; safe locked; bin shut; shelf open; chest locked key ball coin cube",
            "hand -; floor open; safe locked; bin shut; shelf open; chest locked key ball cube coin",
        )

    def test_needs_a_free_hand(self):
        self.cannot("shake bin", "hand key; floor open; safe locked; bin shut ball coin; shelf open cube; chest shut")
        self.cannot("shake safe", "hand key; floor open; safe locked ball coin; bin shut; shelf open cube; chest shut")

    def test_needs_a_place_that_is_not_open(self):
        before = "hand -; floor open ball coin; safe locked; bin open cube key; shelf open; chest shut"
        self.cannot("shake bin", before)
        self.cannot("shake floor", before)

    def test_needs_two_things(self):
        before = "hand -; floor open ball coin; safe locked cube; bin shut key; shelf open; chest shut"
        for place in ["bin", "safe", "chest"]:
            self.cannot(f"shake {place}", before)


class Lids(DeedsTest):
    def lids(self, line, before, behind, hand="-"):
        """Lids of safe, bin and chest; things lie in and on all of them."""
        rest = [name for name in ["ball", "key", "coin", "cube"] if name != hand]
        text = "hand {}; floor open {}; safe {} {}; bin {} {}; shelf open; chest {}"
        given = before.split(" ")
        told = text.format(hand, rest[0], given[0], rest[1], given[1], " ".join(rest[2:]), given[2])
        if behind is None:
            self.cannot(line, told)
        else:
            end = behind.split(" ")
            self.comes(
                line, told, text.format(hand, rest[0], end[0], rest[1], end[1], " ".join(rest[2:]), end[2]),
            )

    def test_open(self):
        self.lids("open bin", "locked shut open", "locked open open")
        self.lids("open safe", "shut shut shut", "open shut shut")
        self.lids("open chest", "shut shut shut", "shut shut open")

    def test_open_needs_a_shut_lid(self):
        self.lids("open bin", "shut open shut", None)
        self.lids("open safe", "locked shut shut", None)
        self.lids("open chest", "shut shut open", None)
        self.lids("open floor", "shut shut shut", None)
        self.lids("open shelf", "shut shut shut", None)

    def test_open_needs_a_free_hand(self):
        for hand in ["ball", "key"]:
            self.lids("open bin", "shut shut shut", None, hand)
            self.lids("open safe", "shut shut shut", None, hand)

    def test_shut(self):
        self.lids("shut bin", "open open open", "open shut open")
        self.lids("shut safe", "open open open", "shut open open")
        self.lids("shut chest", "locked shut open", "locked shut shut")

    def test_shut_needs_an_open_lid(self):
        self.lids("shut bin", "open shut open", None)
        self.lids("shut safe", "locked open open", None)
        self.lids("shut chest", "open open shut", None)

    def test_shut_needs_a_lid(self):
        self.lids("shut floor", "open open open", None)
        self.lids("shut shelf", "open open open", None)

    def test_shut_needs_a_free_hand(self):
        for hand in ["coin", "key"]:
            self.lids("shut bin", "open open open", None, hand)
            self.lids("shut safe", "open open open", None, hand)

    def test_lock(self):
        self.lids("lock safe", "shut shut shut", "locked shut shut", "key")
        self.lids("lock chest", "locked open shut", "locked open locked", "key")

    def test_lock_needs_a_shut_lid(self):
        self.lids("lock safe", "open shut shut", None, "key")
        self.lids("lock safe", "locked shut shut", None, "key")

    def test_unlock(self):
        self.lids("unlock safe", "locked shut locked", "shut shut locked", "key")
        self.lids("unlock chest", "open open locked", "open open shut", "key")

    def test_unlock_needs_a_locked_lid(self):
        self.lids("unlock safe", "open shut locked", None, "key")
        self.lids("unlock safe", "shut shut locked", None, "key")

    def test_lock_and_unlock_need_the_key(self):
        for hand in ["-", "ball", "coin", "cube"]:
            self.lids("lock safe", "shut shut locked", None, hand)
            self.lids("unlock chest", "shut shut locked", None, hand)

    def test_lock_and_unlock_need_a_lock(self):
        for hand in ["-", "key", "ball"]:
            for place in ["bin", "floor", "shelf"]:
                self.lids(f"lock {place}", "shut shut locked", None, hand)
                self.lids(f"unlock {place}", "shut shut locked", None, hand)


class TwoKeys(DeedsTest):
    room = Room(["place a", "box b u", "box c v", "thing u s", "thing v s"])

    def test_each_key_fits_its_own_box_alone(self):
        self.comes("lock b", "hand u; a open v; b shut; c shut", "hand u; a open v; b locked; c shut")
        self.cannot("lock c", "hand u; a open v; b shut; c shut")
        self.comes("unlock c", "hand v; a open u; b locked; c locked", "hand v; a open u; b locked; c shut")
        self.cannot("unlock b", "hand v; a open u; b locked; c locked")


class EachWorld(unittest.TestCase):
    def alike(self, room, worlds, lines):
        known = set(all_worlds(room))
        for world in worlds:
            for line in lines:
                found = turns(room, line, world)
                told = looked_for(room, line, world)
                self.assertEqual(len(found), len(set(found)), (line, world))
                self.assertEqual(sorted(found, key=order_of), sorted(told, key=order_of), (line, world))
                self.assertLessEqual(set(found), known, (line, world))

    def test_of_small_rooms(self):
        for room in SMALL + [ROOM]:
            self.alike(room, all_worlds(room), all_deeds(room))

    def test_some_of_a_wide_room(self):
        self.alike(WIDE, all_worlds(WIDE)[::97], all_deeds(WIDE))

    def test_each_number_of_ways(self):
        many = {word: set() for word in WORDS + ["tip"]}
        for world in all_worlds(ROOM):
            for line in all_deeds(ROOM):
                many[line.split(" ")[0]].add(len(turns(ROOM, line, world)))
        for word in many:
            with self.subTest(word=word):
                told = {"toss": {0, 1, 2}, "shake": {0, 2}}
                self.assertEqual(many[word], told.get(word, {0, 1}))


class OneBehindAnother(unittest.TestCase):
    def test_all_that_comes_from_a_world_is_a_world(self):
        start = read_world(ROOM, "hand -; floor open ball key; bin open coin; chest open")
        known = set(all_worlds(ROOM))
        found = {start}
        fresh = [start]
        while fresh:
            world = fresh.pop()
            for line in all_deeds(ROOM):
                for one in turns(ROOM, line, world):
                    self.assertIn(one, known)
                    if one not in found:
                        found.add(one)
                        fresh.append(one)
        # Locking the chest needs its key in the hand, so the key never comes to lie locked up in it.
        self.assertEqual(found, {world for world in known if not key_is_locked_up(world)})

    def test_a_long_row(self):
        world = read_world(WIDE, "hand -; floor open ball key; safe shut; bin open coin; shelf open cube; chest shut")
        lines = all_deeds(WIDE)
        done_so_far = 0
        for k in range(6000):
            line = lines[(k * k + k // 7) % len(lines)]
            before = show_world(WIDE, world)
            found = turns(WIDE, line, world)
            self.assertEqual(show_world(WIDE, world), before)
            for one in found:
                self.check(one)
            if found:
                world = found[k % len(found)]
                done_so_far += 1
        self.assertGreater(done_so_far, 500)

    def check(self, world):
        held = [] if world[0] is None else [world[0]]
        things = held + [thing for heap in world[1] for thing in heap]
        self.assertEqual(sorted(things), ["ball", "coin", "cube", "key"])
        self.assertEqual([part.__class__ for part in world[1:]], [tuple, tuple])
        self.assertEqual({heap.__class__ for heap in world[1]}, {tuple})
        for place, lid in zip(WIDE.places(), world[2], strict=True):
            words = {"floor": ["open"], "shelf": ["open"], "bin": ["open", "shut"]}
            self.assertIn(lid, words.get(place, ["open", "shut", "locked"]))

    def test_by_hand(self):
        room = ROOM
        world = read_world(room, "hand -; floor open coin key; bin open ball; chest locked")
        for line, text in [
            ("take floor", "hand key; floor open coin; bin open ball; chest locked"),
            ("unlock chest", "hand key; floor open coin; bin open ball; chest shut"),
            ("put bin", "hand -; floor open coin; bin open ball key; chest shut"),
            ("open chest", "hand -; floor open coin; bin open ball key; chest open"),
            ("tip bin chest", "hand -; floor open coin; bin open; chest open key ball"),
            ("tip floor chest", "hand -; floor open; bin open; chest open key ball coin"),
            ("shut chest", "hand -; floor open; bin open; chest shut key ball coin"),
            ("shake chest", "hand -; floor open; bin open; chest shut key coin ball"),
            ("open chest", "hand -; floor open; bin open; chest open key coin ball"),
            ("take chest", "hand ball; floor open; bin open; chest open key coin"),
            ("toss bin", "hand -; floor open ball; bin open; chest open key coin"),
        ]:
            found = {show_world(room, one): one for one in turns(room, line, world)}
            self.assertIn(text, found)
            world = found[text]


def key_is_locked_up(world):
    return world[2][2] == "locked" and "key" in world[1][2]


class Told(unittest.TestCase):
    def test_a_told_list_is_the_askers_own(self):
        for line, text in [
            ("take floor", "hand -; floor open ball key; bin shut coin; chest locked"),
            ("toss bin", "hand ball; floor open key; bin open coin; chest locked"),
            ("shake bin", "hand -; floor open; bin shut coin ball key; chest locked"),
            ("open bin", "hand -; floor open ball key; bin shut coin; chest locked"),
            ("put floor", "hand -; floor open ball key; bin shut coin; chest locked"),
        ]:
            with self.subTest(line=line):
                world = read_world(ROOM, text)
                found = turns(ROOM, line, world)
                told = list(found)
                found.reverse()
                found.append("something else")
                again = turns(ROOM, line, world)
                self.assertIsNot(again, found)
                self.assertEqual(sorted(again, key=order_of), sorted(told, key=order_of))
                again.clear()
                self.assertEqual(sorted(turns(ROOM, line, world), key=order_of), sorted(told, key=order_of))
                self.assertEqual(show_world(ROOM, world), text)

    def test_the_room_stays(self):
        room = Room(WIDE_LINES)
        for world in all_worlds(WIDE)[::997]:
            for line in all_deeds(WIDE):
                turns(room, line, world)
        self.assertEqual((room.places(), room.things()), (WIDE.places(), WIDE.things()))
        for place in room.places():
            told = (room.lidded(place), room.key_of(place))
            self.assertEqual(told, (WIDE.lidded(place), WIDE.key_of(place)))


class LinesRefused(unittest.TestCase):
    WORLDS = [
        read_world(ROOM, text) for text in [
            "hand -; floor open ball key; bin open coin; chest open",
            "hand -; floor open; bin shut ball key; chest shut coin",
            "hand -; floor open; bin shut; chest locked ball key coin",
            "hand key; floor open ball coin; bin open; chest shut",
            "hand key; floor open ball; bin shut coin; chest locked",
            "hand ball; floor open; bin open key; chest open coin",
        ]
    ]

    def refused(self, line, room=ROOM, worlds=None):
        for world in self.WORLDS if worlds is None else worlds:
            with self.subTest(line=line, world=world):
                before = show_world(room, world)
                with self.assertRaises(NoDeed) as taken:
                    turns(room, line, world)
                self.assertIs(taken.exception.__class__, NoDeed)
                self.assertEqual(show_world(room, world), before)

    def test_no_sign_and_blanks_alone(self):
        for line in ["", " ", "  ", "   "]:
            self.refused(line)

    def test_a_word_alone(self):
        for word in WORDS + ["tip"]:
            self.refused(word)
            self.refused(word + " ")
            self.refused(word + "  ")

    def test_a_name_that_is_no_places(self):
        for word in WORDS:
            for name in ["ball", "key", "coin", "round", "flat", "attic", "hand", "-", "floo", "floors", "place"]:
                self.refused(f"{word} {name}")
        for name in ["ball", "key", "flat", "attic", "hand", "-", "bi", "bins"]:
            self.refused(f"tip floor {name}")
            self.refused(f"tip {name} floor")
            self.refused(f"tip {name} {name}")

    def test_a_place_more(self):
        for word in WORDS:
            for one in ROOM.places():
                for other in ROOM.places() + ["ball", "attic", "in", "on"]:
                    self.refused(f"{word} {one} {other}")

    def test_tip_of_other_places_than_two_unlike(self):
        for place in ROOM.places():
            self.refused(f"tip {place}")
            self.refused(f"tip {place} {place}")
        self.refused("tip floor bin chest")
        self.refused("tip floor bin bin")
        self.refused("tip floor bin floor")

    def test_another_word(self):
        for word in ["drop", "close", "tak", "takes", "place", "box", "thing", "not", "do", "floor", "-", "locked"]:
            for place in ROOM.places():
                self.refused(f"{word} {place}")
            self.refused(f"{word} floor bin")
        self.refused("floor")
        self.refused("floor take")
        self.refused("shake floor bin")

    def test_a_look(self):
        for line in ["feel hand", "feel floor", "feel bin", "try bin", "try chest", "heft bin", "heft chest"]:
            self.refused(line)

    def test_a_great_letter(self):
        for line in all_deeds(ROOM):
            for k in range(len(line)):
                if line[k] != " ":
                    self.refused(line[:k] + line[k].upper() + line[k + 1:], ROOM, self.WORLDS[:2])

    def test_a_blank_more(self):
        for line in all_deeds(ROOM):
            for k in range(len(line) + 1):
                self.refused(line[:k] + " " + line[k:], ROOM, self.WORLDS[:2])
            self.refused(line.replace(" ", ""), ROOM, self.WORLDS[:2])
            self.refused(line.replace(" ", "  "), ROOM, self.WORLDS[:2])

    def test_other_signs(self):
        for line in ["take floor", "open bin", "tip floor bin"]:
            for sign in "\t\n;,.-_0":
                self.refused(line + sign)
                self.refused(sign + line)
                self.refused(line.replace(" ", sign))

    def test_long_lines(self):
        self.refused("take " + "a" * 295)
        self.refused("a" * 300)
        self.refused("tip" + " floor" * 49)

    def test_a_line_of_another_room(self):
        room = SMALL[2]
        for world in all_worlds(room):
            for line in all_deeds(ROOM) + ["take ab", "tip a c", "tip u v"]:
                self.refused(line, room, [world])

    def test_a_room_of_one_place_has_no_tip(self):
        room = SMALL[1]
        worlds = all_worlds(room)
        for line in ["tip a", "tip a a", "tip a u", "tip a b"]:
            self.refused(line, room, worlds)
        self.assertEqual(turns(room, "take a", (None, (("u",),), ("open",))), [("u", ((),), ("open",))])


if __name__ == "__main__":
    unittest.main()
