"""Point 15: the atlas; points 9 to 12 as far as it rests on them, 2 and 3 as far as they speak of it."""

import itertools
import unittest

from grope.atlas import Atlas
from grope.charts import Chart
from grope.deeds import turns
from grope.errors import NoChart, NoDeed, NoFact, NoLook, NoWorld, TooMany
from grope.facts import holds
from grope.looks import looked
from grope.rooms import Room
from grope.sets import worlds_of
from grope.worlds import changes, read_world
from helper import ROOM, SMALL, WIDE, WIDE_LINES, all_worlds

# Worlds of the wide room with a free hand, in which the bin is shut, and beside them those with the bin open.
SHUT = [world for world in all_worlds(WIDE) if world[0] is None and world[2][2] == "shut"][:300]
OPEN = [(None, heaps, lids[:2] + ("open",) + lids[3:]) for hand, heaps, lids in SHUT]

WORDS = ["take", "put", "toss", "open", "shut", "lock", "unlock", "shake"]


def all_deeds(room):
    lines = [f"{word} {place}" for word in WORDS for place in room.places()]
    return lines + [f"tip {one} {other}" for one, other in itertools.permutations(room.places(), 2)]


def all_looks(room):
    return ["feel hand"] + [f"{word} {place}" for word in ["feel", "try", "heft"] for place in room.places()]


def priced(lines, price=1):
    return [(line, price + k) for k, line in enumerate(lines)]


def all_coming(room, worlds, lines):
    found = set()
    waiting = list(worlds)
    while waiting:
        world = waiting.pop()
        if world not in found:
            found.add(world)
            for line in lines:
                waiting.extend(turns(room, line, world))
    return found


class AtlasTest(unittest.TestCase):
    def check(self, room, worlds, deeds, looks):
        """Holds all that an atlas tells against point 15, and gives the atlas back."""
        atlas = Atlas(room, worlds, deeds, looks)
        numbered = atlas.worlds()
        self.check_numbers(atlas, room, worlds, [line for line, price in deeds])
        self.check_chart(atlas.chart(), room, numbered, deeds, looks)
        self.assertEqual(atlas.far(), [[changes(one, other) for other in numbered] for one in numbered])
        self.assertEqual(atlas.room().places(), room.places())
        self.assertEqual(atlas.room().things(), room.things())
        return atlas

    def check_numbers(self, atlas, room, worlds, lines):
        numbered = atlas.worlds()
        first = list(dict.fromkeys(worlds))
        self.assertEqual(numbered[:len(first)], first)
        self.assertEqual(len(set(numbered)), len(numbered))
        self.assertEqual(set(numbered), all_coming(room, worlds, lines))
        led_to = set(first)
        for world in numbered:
            self.assertIn(world, led_to)
            for line in lines:
                led_to.update(turns(room, line, world))
        self.assertEqual([atlas.number_of(world) for world in numbered], list(range(len(numbered))))

    def check_chart(self, chart, room, numbered, deeds, looks):
        self.assertIsInstance(chart, Chart)
        self.assertEqual(chart.size(), len(numbered))
        self.assertEqual([(name, chart.price_of(name)) for name in chart.deed_names()], deeds)
        self.assertEqual([(name, chart.price_of(name)) for name in chart.look_names()], looks)
        for number, world in enumerate(numbered):
            for line, price in deeds:
                came = sorted(numbered.index(new) for new in turns(room, line, world))
                self.assertEqual(chart.outs(line, number), came)
            for line, price in looks:
                self.assertEqual(chart.answer_of(line, number), looked(room, line, world))


class ByHand(AtlasTest):
    """A ball, and a bin that is shut at first; all of it is written out."""

    def setUp(self):
        self.room = Room(["place floor", "box bin", "thing ball round"])
        self.shut = (None, (("ball",), ()), ("open", "shut"))
        self.ajar = (None, (("ball",), ()), ("open", "open"))
        self.held = ("ball", ((), ()), ("open", "shut"))
        self.held_ajar = ("ball", ((), ()), ("open", "open"))
        self.inside = (None, ((), ("ball",)), ("open", "open"))
        self.deeds = [("toss bin", 4), ("open bin", 2), ("take floor", 3)]
        self.looks = [("try bin", 7), ("feel floor", 1), ("feel hand", 5)]
        self.atlas = self.check(self.room, [self.shut], self.deeds, self.looks)

    def spots(self, worlds):
        return sorted(self.atlas.number_of(world) for world in worlds)

    def test_worlds(self):
        worlds = self.atlas.worlds()
        self.assertEqual(worlds[0], self.shut)
        self.assertEqual(set(worlds), {self.shut, self.ajar, self.held, self.held_ajar, self.inside})
        self.assertEqual(len(worlds), 5)
        # In the bin the ball comes only from an open bin and a full hand.
        self.assertEqual(worlds[4], self.inside)

    def test_chart(self):
        chart = self.atlas.chart()
        self.assertEqual(chart.size(), 5)
        self.assertEqual(chart.deed_names(), ["toss bin", "open bin", "take floor"])
        self.assertEqual(chart.look_names(), ["try bin", "feel floor", "feel hand"])
        prices = [chart.price_of(name) for name in chart.deed_names() + chart.look_names()]
        self.assertEqual(prices, [4, 2, 3, 7, 1, 5])

    def test_what_the_deeds_do(self):
        chart = self.atlas.chart()
        for line, world, came in [
            ("toss bin", self.shut, []),
            ("toss bin", self.held, []),
            ("toss bin", self.held_ajar, [self.ajar, self.inside]),
            ("toss bin", self.inside, []),
            ("open bin", self.shut, [self.ajar]),
            ("open bin", self.ajar, []),
            ("open bin", self.held, []),
            ("open bin", self.inside, []),
            ("take floor", self.shut, [self.held]),
            ("take floor", self.ajar, [self.held_ajar]),
            ("take floor", self.held, []),
            ("take floor", self.inside, []),
        ]:
            with self.subTest(line=line, world=world):
                self.assertEqual(chart.outs(line, self.atlas.number_of(world)), self.spots(came))

    def test_what_the_looks_tell(self):
        chart = self.atlas.chart()
        for line, world, answer in [
            ("try bin", self.shut, "shut"),
            ("try bin", self.ajar, "open"),
            ("try bin", self.held, None),
            ("try bin", self.inside, "open"),
            ("feel floor", self.shut, "round"),
            ("feel floor", self.held_ajar, None),
            ("feel floor", self.inside, "-"),
            ("feel hand", self.shut, "-"),
            ("feel hand", self.held, "round"),
        ]:
            with self.subTest(line=line, world=world):
                self.assertEqual(chart.answer_of(line, self.atlas.number_of(world)), answer)

    def test_where(self):
        for fact, worlds in [
            ("ball held", [self.held, self.held_ajar]),
            ("ball in bin", [self.inside]),
            ("bin open", [self.ajar, self.held_ajar, self.inside]),
            ("not bin open", [self.shut, self.held]),
            ("free and bin open", [self.ajar, self.inside]),
            ("ball in bin or ball held", [self.held, self.held_ajar, self.inside]),
            ("bin locked", []),
            ("ball on ball", []),
            ("floor open", [self.shut, self.ajar, self.held, self.held_ajar, self.inside]),
        ]:
            with self.subTest(fact=fact):
                found = self.atlas.where(fact)
                self.assertIs(found.__class__, int)
                self.assertEqual(worlds_of(found), self.spots(worlds))

    def test_far(self):
        far = self.atlas.far()
        for one, other, many in [
            (self.shut, self.shut, 0), (self.shut, self.ajar, 1), (self.shut, self.held, 2),
            (self.shut, self.held_ajar, 3), (self.shut, self.inside, 3), (self.ajar, self.inside, 2),
            (self.held_ajar, self.inside, 2), (self.held, self.inside, 3),
        ]:
            with self.subTest(one=one, other=other):
                self.assertEqual(far[self.atlas.number_of(one)][self.atlas.number_of(other)], many)
                self.assertEqual(far[self.atlas.number_of(other)][self.atlas.number_of(one)], many)

    def test_told_ones_go_first(self):
        for worlds in itertools.permutations([self.shut, self.inside, self.held_ajar]):
            atlas = self.check(self.room, list(worlds), self.deeds, self.looks)
            self.assertEqual(atlas.worlds()[:3], list(worlds))
            self.assertEqual(len(atlas.worlds()), 5)

    def test_told_ones_count_where_they_were_first_told(self):
        worlds = [self.inside, self.shut, self.inside, self.inside, self.held, self.shut, self.held]
        atlas = self.check(self.room, worlds, self.deeds, self.looks)
        self.assertEqual(atlas.worlds()[:3], [self.inside, self.shut, self.held])
        self.assertEqual(len(atlas.worlds()), 5)

    def test_fewer_worlds_come(self):
        atlas = self.check(self.room, [self.inside], self.deeds, self.looks)
        self.assertEqual(atlas.worlds(), [self.inside])
        self.assertEqual(atlas.far(), [[0]])
        self.assertEqual(atlas.where("ball in bin"), 1)
        self.assertEqual(atlas.where("ball held"), 0)

    def test_without_deeds(self):
        atlas = self.check(self.room, [self.held, self.shut], [], self.looks)
        self.assertEqual(atlas.worlds(), [self.held, self.shut])
        self.assertEqual(atlas.chart().deed_names(), [])

    def test_without_looks(self):
        atlas = self.check(self.room, [self.shut], self.deeds, [])
        self.assertEqual(len(atlas.worlds()), 5)
        self.assertEqual(atlas.chart().look_names(), [])

    def test_without_either(self):
        atlas = self.check(self.room, [self.ajar], [], [])
        self.assertEqual(atlas.worlds(), [self.ajar])


class Everything(AtlasTest):
    def test_small_rooms_with_all_deeds_and_looks(self):
        for room in SMALL:
            worlds = all_worlds(room)
            self.assertLessEqual(len(worlds), 200)
            deeds = priced(all_deeds(room)[:40])
            looks = priced(all_looks(room), 50)
            self.check(room, worlds, deeds, looks)
            self.check(room, worlds[::-1], deeds[::-1], looks[::-1])
            for world in worlds[::20]:
                self.check(room, [world], deeds, looks)

    def test_small_rooms_with_few_deeds(self):
        room = SMALL[4]
        worlds = all_worlds(room)
        lines = all_deeds(room)
        for spot, world in enumerate(worlds):
            deeds = priced([lines[(spot + step) % len(lines)] for step in (0, 3, 7, 11, 20)])
            self.check(room, [world, worlds[-1 - spot]], deeds, [("feel b", 2)])

    def test_a_room_with_locks(self):
        lines = [
            "hand -; floor open ball key; bin shut; chest locked coin",
            "hand -; floor open key; bin shut ball; chest locked coin",
        ]
        worlds = [read_world(ROOM, line) for line in lines]
        deeds = priced(["take floor", "put floor", "unlock chest", "open chest", "take chest", "open bin"])
        looks = priced(["heft bin", "heft chest", "feel floor", "try chest"], 3)
        atlas = self.check(ROOM, worlds, deeds, looks)
        spot = atlas.number_of(worlds[1])
        self.assertEqual(spot, 1)
        self.assertEqual(atlas.chart().answer_of("heft bin", 0), "light")
        self.assertEqual(atlas.chart().answer_of("heft bin", 1), "heavy")
        self.assertGreater(atlas.where("coin held"), 0)

    def test_facts(self):
        room = SMALL[3]
        worlds = all_worlds(room)
        atlas = Atlas(room, worlds, [], [])
        for fact in [
            "free", "u held", "v top", "u on v", "u in a", "v in ab and u top", "b locked or b shut", "not b bare",
            "not free and a bare or not u top and v in b", "b open and not b open",
        ]:
            numbers = [number for number, world in enumerate(worlds) if holds(room, fact, world)]
            self.assertEqual(worlds_of(atlas.where(fact)), numbers)

    def test_a_wide_room_far_from_the_floor(self):
        world = read_world(WIDE, "hand -; floor open ball; safe locked; bin open coin cube; shelf open key; chest shut")
        atlas = self.check(
            WIDE, [world], priced(["tip bin shelf", "tip shelf bin", "take shelf", "lock chest", "put shelf"]),
            priced(all_looks(WIDE)),
        )
        self.assertEqual(atlas.worlds()[0], world)

    def test_forty_deeds(self):
        text = "hand -; floor open; safe locked key ball; bin shut coin; shelf open; chest locked cube"
        world = read_world(WIDE, text)
        lines = [line for line in all_deeds(WIDE) if line not in ("open bin", "shake safe")]
        self.assertEqual(len(self.check(WIDE, [world], priced(lines[-40:]), []).chart().deed_names()), 40)

    def test_prices(self):
        world = all_worlds(SMALL[1])[0]
        deeds = [("take a", 1), ("put a", 10 ** 9)]
        looks = [("feel a", 10 ** 9), ("feel hand", 1)]
        self.check(SMALL[1], [world], deeds, looks)


class Copied(AtlasTest):
    def all_told(self, atlas):
        chart = atlas.chart()
        spots = range(chart.size())
        return (
            atlas.room().places(), atlas.room().things(), atlas.worlds(), atlas.far(), atlas.where("u held"),
            chart.deed_names(), [[chart.outs(name, spot) for spot in spots] for name in chart.deed_names()],
            chart.look_names(), [[chart.answer_of(name, spot) for spot in spots] for name in chart.look_names()],
            [chart.price_of(name) for name in chart.deed_names() + chart.look_names()],
        )

    def test_what_is_handed_in(self):
        room = SMALL[2]
        every = all_worlds(room)
        worlds = [every[3], every[0], every[3]]
        deeds = [("take a", 2), ("put a", 3)]
        looks = [("feel hand", 4), ("feel a", 5)]
        atlas = Atlas(room, worlds, deeds, looks)
        before = self.all_told(atlas)
        self.assertEqual(worlds, [every[3], every[0], every[3]])
        self.assertEqual(deeds, [("take a", 2), ("put a", 3)])
        self.assertEqual(looks, [("feel hand", 4), ("feel a", 5)])
        worlds[0] = every[5]
        worlds.append(every[7])
        deeds.append(("shut b", 1))
        deeds[0] = ("open b", 9)
        looks.clear()
        self.assertEqual(self.all_told(atlas), before)

    def test_told_lists(self):
        room = SMALL[2]
        atlas = Atlas(room, all_worlds(room)[:4], [("take a", 2), ("put a", 3)], [("feel a", 5)])
        before = self.all_told(atlas)
        atlas.worlds().clear()
        worlds = atlas.worlds()
        worlds[0] = worlds[1]
        worlds.append(None)
        atlas.far().clear()
        far = atlas.far()
        far[0][0] = 99
        far[1].clear()
        far.append([1])
        atlas.room().places().clear()
        atlas.room().things().append("x")
        atlas.chart().deed_names().clear()
        atlas.chart().look_names().append("x")
        atlas.chart().outs("take a", 0).append(7)
        self.assertEqual(self.all_told(atlas), before)
        self.assertEqual(atlas.number_of(before[2][0]), 0)

    def test_rows_of_far_are_lists_of_their_own(self):
        far = Atlas(SMALL[2], all_worlds(SMALL[2]), [], []).far()
        self.assertIs(far.__class__, list)
        for row in far:
            self.assertIs(row.__class__, list)
        self.assertEqual(len({id(row) for row in far}), len(far))

    def test_the_room_tells_the_same(self):
        room = Atlas(WIDE, SHUT[:1], [], []).room()
        self.assertIsInstance(room, Room)
        self.assertEqual((room.places(), room.things()), (WIDE.places(), WIDE.things()))
        for place in WIDE.places():
            self.assertEqual((room.lidded(place), room.key_of(place)), (WIDE.lidded(place), WIDE.key_of(place)))
        for thing in WIDE.things():
            self.assertEqual(room.shape_of(thing), WIDE.shape_of(thing))

    def test_a_room_whose_lines_are_changed(self):
        lines = list(WIDE_LINES)
        room = Room(lines)
        world = read_world(room, "hand -; floor open ball key cube; safe open; bin open coin; shelf open; chest open")
        atlas = Atlas(room, [world], [("take floor", 1)], [("feel floor", 1)])
        lines.clear()
        self.assertEqual(atlas.room().places(), WIDE.places())
        self.assertEqual(atlas.chart().answer_of("feel floor", 0), "edged")

    def test_two_atlases_stay_apart(self):
        room = SMALL[2]
        one = Atlas(room, all_worlds(room)[:2], [("take a", 2)], [])
        before = self.all_told(one)
        Atlas(room, all_worlds(room)[5:9], [("put a", 3)], [("feel a", 5)])
        self.assertEqual(self.all_told(one), before)


class Strangers(AtlasTest):
    def test_a_world_that_is_none_of_them(self):
        room = SMALL[2]
        every = all_worlds(room)
        atlas = Atlas(room, every[:3], [("take a", 1)], [])
        strangers = [world for world in every if world not in atlas.worlds()]
        self.assertGreater(len(strangers), 0)
        for world in strangers:
            with self.assertRaises(NoWorld) as taken:
                atlas.number_of(world)
            self.assertIs(taken.exception.__class__, NoWorld)
        self.assertEqual([atlas.number_of(world) for world in every[:3]], [0, 1, 2])

    def test_a_text_that_is_no_fact(self):
        atlas = Atlas(ROOM, [all_worlds(ROOM)[0]], [], [])
        for fact in [
            "", " ", "ball", "ball in", "ball in ball", "bin in floor", "free or", "free or ball", "free and bin",
            "ball in bin while free", "cube held", "not", "not not free", "Free", "free ", " free", "free  or free",
        ]:
            with self.subTest(fact=fact):
                with self.assertRaises(NoFact) as taken:
                    atlas.where(fact)
                self.assertIs(taken.exception.__class__, NoFact)


class Bounds(AtlasTest):
    """Just two hundred worlds, told or coming; of the told ones none leads on but those that are asked to."""

    def setUp(self):
        self.deeds = [("open bin", 1)]

    def taken(self, worlds, deeds, many):
        self.assertEqual(len(self.check(WIDE, worlds, deeds, [("try bin", 1)]).worlds()), many)

    def refused(self, worlds, deeds):
        with self.assertRaises(TooMany) as taken:
            Atlas(WIDE, worlds, deeds, [])
        self.assertIs(taken.exception.__class__, TooMany)

    def test_told(self):
        self.taken(OPEN[:199], [], 199)
        self.taken(OPEN[:200], [], 200)
        self.taken(OPEN[:200], self.deeds, 200)
        self.refused(OPEN[:201], [])
        self.refused(OPEN[:202], self.deeds)
        self.refused(OPEN[:300], [])

    def test_told_more_than_once(self):
        self.taken(OPEN[:100] * 3, [], 100)
        self.taken(OPEN[:200] + OPEN[:100], [], 200)
        self.taken([OPEN[0]] * 300, self.deeds, 1)
        self.refused(OPEN[:99] + OPEN[:201], [])

    def test_coming(self):
        for spot in [0, 100, 198]:
            self.taken(OPEN[:198][:spot] + [SHUT[250]] + OPEN[:198][spot:], self.deeds, 200)
            self.refused(OPEN[:199][:spot] + [SHUT[250]] + OPEN[:199][spot:], self.deeds)
        self.taken(SHUT[:100], self.deeds, 200)
        self.taken(SHUT[:99] + [OPEN[250]], self.deeds, 199)
        self.refused(SHUT[:101], self.deeds)
        self.refused(SHUT[:100] + [OPEN[250]], self.deeds)
        self.refused(SHUT[:200], self.deeds)

    def test_the_last_one_leads_to_one_of_them_or_to_one_more(self):
        self.taken(OPEN[:199] + [SHUT[7]], self.deeds, 200)
        self.refused(OPEN[:199] + [SHUT[200]], self.deeds)

    def test_far_more_than_can_be_waited_for(self):
        things = [f"thing {name} s" for name in "uvwxyz"]
        room = Room(["place a", "box b u", "box c v", "place d", "box e", "place f"] + things)
        world = (None, (tuple("uvwxyz"), (), (), (), (), ()), ("open", "shut", "shut", "open", "open", "open"))
        with self.assertRaises(TooMany):
            Atlas(room, [world], priced(all_deeds(room)[:40]), [])


class Refused(AtlasTest):
    """Each fault is a rank in the order of point 15, and what is done to worlds, deeds and looks."""

    RANKS = [NoDeed, NoLook, NoChart, TooMany]

    def setUp(self):
        # Nothing comes of these, as the hand is free and the deeds of the good list need a full one.
        self.worlds = SHUT[:3]
        self.deeds = [("put floor", 2), ("put bin", 3)]
        self.looks = [("feel floor", 4), ("heft bin", 5)]
        more = [(line, 1) for line in all_deeds(WIDE) if line not in ("put floor", "put bin", "open bin")]
        many_looks = [(line, 1) for line in all_looks(WIDE)] * 3
        self.faults = {
            "no deed": (0, lambda w, d, l: (w, d + [("grab floor", 1)], l)),
            "no deed ahead": (0, lambda w, d, l: (w, [("take attic", 1)] + d, l)),
            "a look among the deeds": (0, lambda w, d, l: (w, d + [("try bin", 1)], l)),
            "no look": (1, lambda w, d, l: (w, d, l + [("feel ball", 1)])),
            "no look ahead": (1, lambda w, d, l: (w, d, [("sniff bin", 1)] + l)),
            "a deed among the looks": (1, lambda w, d, l: (w, d, l + [("take bin", 1)])),
            "forty-one deeds": (2, lambda w, d, l: (w, d + more[:39], l)),
            "many deeds": (2, lambda w, d, l: (w, d + more, l)),
            "forty-one looks": (2, lambda w, d, l: (w, d, l + many_looks[:39])),
            "a deed twice": (2, lambda w, d, l: (w, d + [("put floor", 2)], l)),
            "a deed twice at another price": (2, lambda w, d, l: (w, [("put bin", 9)] + d, l)),
            "a look twice": (2, lambda w, d, l: (w, d, l + [("feel floor", 4)])),
            "a look twice at another price": (2, lambda w, d, l: (w, d, [("heft bin", 9)] + l)),
            "a deed for nothing": (2, lambda w, d, l: (w, d + [("put shelf", 0)], l)),
            "a deed below": (2, lambda w, d, l: (w, [("put shelf", -1)] + d, l)),
            "a deed too dear": (2, lambda w, d, l: (w, d + [("put shelf", 10 ** 9 + 1)], l)),
            "a look for nothing": (2, lambda w, d, l: (w, d, l + [("feel bin", 0)])),
            "a look below": (2, lambda w, d, l: (w, d, l + [("feel bin", -10 ** 59)])),
            "a look too dear": (2, lambda w, d, l: (w, d, [("feel bin", 10 ** 59)] + l)),
            "too many worlds told": (3, lambda w, d, l: (SHUT[:201], d, l)),
            "too many worlds that come": (3, lambda w, d, l: (SHUT[:150], d + [("open bin", 1)], l)),
            "no world": (2, lambda w, d, l: ([], d, l)),
        }

    def refused(self, names):
        given = (list(self.worlds), list(self.deeds), list(self.looks))
        for name in names:
            given = self.faults[name][1](*given)
        worlds, deeds, looks = given
        handed = (list(worlds), list(deeds), list(looks))
        refusal = self.RANKS[min(self.faults[name][0] for name in names)]
        with self.subTest(names=names):
            with self.assertRaises(refusal) as taken:
                Atlas(WIDE, worlds, deeds, looks)
            self.assertIs(taken.exception.__class__, refusal)
            self.assertEqual((worlds, deeds, looks), handed)

    def test_none_is_due(self):
        self.check(WIDE, self.worlds, self.deeds, self.looks)

    def test_alone(self):
        for name in self.faults:
            self.refused([name])

    def test_two_at_once(self):
        for one, other in itertools.combinations(self.faults, 2):
            self.refused([one, other])

    def test_all_at_once(self):
        names = list(self.faults)
        for spot in range(len(names)):
            self.refused(names[spot:])
        for rank in range(4):
            self.refused([name for name in names if self.faults[name][0] >= rank])

    def test_lines_that_are_none(self):
        for line in ["", " ", "take", "take  floor", "take floor ", "tip bin bin", "tip bin", "take hand", "feel hand"]:
            with self.assertRaises(NoDeed):
                Atlas(WIDE, self.worlds, [(line, 1)], [])
        for line in ["", " ", "feel", "feel  floor", "feel floor ", "try hand", "heft hand", "feel key", "take floor"]:
            with self.assertRaises(NoLook):
                Atlas(WIDE, self.worlds, [], [(line, 1)])

    def test_no_world_and_nothing_else(self):
        with self.assertRaises(NoChart):
            Atlas(WIDE, [], [], [])


if __name__ == "__main__":
    unittest.main()
