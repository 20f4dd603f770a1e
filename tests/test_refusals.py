"""Point 3: something that is refused in each way, and of which classes the refusal is."""

import unittest

from grope import errors
from grope.atlas import Atlas
from grope.charts import Chart
from grope.check import does, walked
from grope.deeds import turns
from grope.errands import Errand, errand_of
from grope.facts import holds, read_errand
from grope.known import Knower, after, can_do, parts
from grope.looks import looked
from grope.plans import Do, Look, Stop, read_plan
from grope.rooms import Room
from grope.values import coming, least
from grope.worlds import read_world
from helper import CHART, ROOM, WIDE, all_worlds

WORLD = read_world(ROOM, "hand -; floor open ball key; bin shut; chest locked coin")
OTHER = read_world(ROOM, "hand key; floor open ball; bin shut; chest locked coin")
ATLAS = Atlas(ROOM, [WORLD], [("open bin", 1)], [("feel floor", 1)])
KNOWER = Knower(CHART, 3)
ERRAND = Errand(CHART, 2, 7)
# From all its worlds 201 sets come by one step, the whole one among them.
APART = Errand(Chart(200, [], [("name", 1, [f"{k}" for k in range(200)])]), 0)
PLANS = [Do("swim", Stop()), Do("peek", Stop()), Look("walk", [("red", Stop())]), Do("rest", Do("swim", Stop()))]
ASTRAY = [Stop(), Do("fall", Stop()), Do("dive", Stop()), Look("peek", [("blue", Stop())])]

REFUSED = [
    ("NoRoom", lambda: Room(["box bin"])),
    ("NoWorld", lambda: read_world(ROOM, "hand -")),
    ("NoWorld", lambda: ATLAS.number_of(OTHER)),
    ("NoDeed", lambda: turns(ROOM, "feel floor", WORLD)),
    ("NoDeed", lambda: Atlas(ROOM, [WORLD], [("feel floor", 1)], [])),
    ("NoLook", lambda: looked(ROOM, "take floor", WORLD)),
    ("NoLook", lambda: Atlas(ROOM, [WORLD], [], [("take floor", 1)])),
    ("NoFact", lambda: holds(ROOM, "bin held", WORLD)),
    ("NoFact", lambda: read_errand(ROOM, "free while")),
    ("NoFact", lambda: ATLAS.where("free while free")),
    ("NoFact", lambda: errand_of(ATLAS, "bin held")),
    ("NoChart", lambda: Chart(0, [], [])),
    ("NoChart", lambda: Atlas(ROOM, [], [], [])),
    ("NoName", lambda: ROOM.lidded("attic")),
    ("NoName", lambda: ROOM.key_of("attic")),
    ("NoName", lambda: ROOM.shape_of("bin")),
    ("NoName", lambda: CHART.price_of("swim")),
    ("NoName", lambda: CHART.outs("peek", 0)),
    ("NoName", lambda: CHART.answer_of("walk", 0)),
    ("NoName", lambda: can_do(CHART, "swim", 1)),
    ("NoName", lambda: after(CHART, "peek", 1)),
    ("NoName", lambda: parts(CHART, "walk", 1)),
    ("NoName", lambda: KNOWER.note(("did", "peek"))),
    ("NoName", lambda: KNOWER.note(("saw", "walk", "red"))),
    ("NoName", lambda: KNOWER.note(("failed", "swim"))),
    ("TooMany", lambda: Atlas(WIDE, all_worlds(WIDE)[:201], [], [])),
    ("Cannot", lambda: after(CHART, "walk", 16)),
    ("Cannot", lambda: parts(CHART, "peek", 8)),
    ("NoStory", lambda: KNOWER.fitting(1)),
    ("NoStory", lambda: KNOWER.story(0, 2)),
    ("NoPlan", lambda: Look("peek", [])),
    ("NoPlan", lambda: Look("peek", [("red", Stop()), ("red", Stop())])),
    ("NoPlan", lambda: read_plan([])),
    ("NoPlan", lambda: read_plan(["do walk"])),
    ("NoPlan", lambda: read_plan(["look peek", " case red", "  stop", " case red", "  stop"])),
    ("NoPlan", lambda: read_plan(["stop "])),
    ("TooMany", lambda: coming(APART, 2 ** 200 - 1, 1)),
    ("TooMany", lambda: least(APART, 2 ** 200 - 1, 1)),
]
REFUSED += [("NoName", lambda plan=plan: plan.price_by(CHART)) for plan in PLANS]
REFUSED += [("NoName", lambda plan=plan: walked(ERRAND, 8, plan)) for plan in PLANS]
REFUSED += [("NoName", lambda plan=plan: does(ERRAND, 8, plan)) for plan in PLANS]
REFUSED += [("Astray", lambda plan=plan: walked(ERRAND, 1, plan)) for plan in ASTRAY]
LANDED = [
    "NoRoom", "NoWorld", "NoDeed", "NoLook", "NoFact", "NoChart", "NoName", "TooMany", "Cannot", "NoStory", "NoPlan",
    "Astray",
]


class Refusals(unittest.TestCase):
    def test_something_is_refused_in_each_way(self):
        self.assertEqual(sorted({name for name, ask in REFUSED}), sorted(LANDED))

    def test_of_which_classes_each_refusal_is(self):
        others = [getattr(errors, name) for name in dir(errors) if name not in ("GropeError", "ValueError")]
        others = [found for found in others if isinstance(found, type)]
        self.assertEqual(len(others), 21)
        for number, (name, ask) in enumerate(REFUSED):
            with self.subTest(number=number, name=name):
                with self.assertRaises(ValueError) as taken:
                    ask()
                error = taken.exception
                self.assertIs(error.__class__, getattr(errors, name))
                self.assertIsInstance(error, errors.GropeError)
                self.assertEqual([other.__name__ for other in others if isinstance(error, other)], [name])

    def test_nothing_changes(self):
        for name, ask in REFUSED:
            with self.assertRaises(errors.GropeError):
                ask()
        self.assertEqual((KNOWER.time(), KNOWER.known(), KNOWER.fitting(0)), (0, 3, 3))
        self.assertEqual(len(ATLAS.worlds()), 2)
        self.assertEqual((ERRAND.goal(), ERRAND.keep()), (2, 7))
        self.assertEqual([plan.depth() for plan in PLANS + ASTRAY], [1, 1, 1, 2, 0, 1, 1, 1])

    def test_the_fields_of_astray(self):
        told = []
        for plan in ASTRAY + [Do("walk", Do("walk", Do("walk", Stop())))]:
            with self.assertRaises(errors.Astray) as taken:
                walked(ERRAND, 1, plan)
            error = taken.exception
            told.append((error.row, error.world, error.why))
        self.assertEqual(told, [(0, 0, "goal"), (1, 0, "goal"), (0, 0, "cannot"), (0, 0, "answer"), (3, 3, "keep")])


if __name__ == "__main__":
    unittest.main()
