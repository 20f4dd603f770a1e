"""Point 3: something that is refused in each way, and of which classes the refusal is."""

import unittest

from grope import errors
from grope.atlas import Atlas
from grope.charts import Chart
from grope.deeds import turns
from grope.errands import errand_of
from grope.facts import holds, read_errand
from grope.known import Knower, after, can_do, parts
from grope.looks import looked
from grope.rooms import Room
from grope.worlds import read_world
from helper import CHART, ROOM, WIDE, all_worlds

WORLD = read_world(ROOM, "hand -; floor open ball key; bin shut; chest locked coin")
OTHER = read_world(ROOM, "hand key; floor open ball; bin shut; chest locked coin")
ATLAS = Atlas(ROOM, [WORLD], [("open bin", 1)], [("feel floor", 1)])
KNOWER = Knower(CHART, 3)

REFUSED = [
    ("NoRoom", lambda: Room(["box bin"])),
    ("NoWorld", lambda: read_world(ROOM, "hand -")),
    ("NoWorld", lambda: ATLAS.number_of(OTHER)),
    ("NoDeed", lambda: turns(ROOM, "feel floor", WORLD)),
    ("NoDeed", lambda: Atlas(ROOM, [WORLD], [("feel floor", 1)], [])),
    ("NoLook", lambda: looked(ROOM, "take floor", WORLD)),
    ("NoLook", lambda: Atlas(ROOM, [WORLD], [], [("take floor", 1)])),
    ("NoFact", lambda: holds(ROOM, "bin held", WORLD)),
    ("NoFact", lambda: read_errand(ROOM, "free while")),
    ("NoFact", lambda: ATLAS.where("free while free")),
    ("NoFact", lambda: errand_of(ATLAS, "bin held")),
    ("NoChart", lambda: Chart(0, [], [])),
    ("NoChart", lambda: Atlas(ROOM, [], [], [])),
    ("NoName", lambda: ROOM.lidded("attic")),
    ("NoName", lambda: ROOM.key_of("attic")),
    ("NoName", lambda: ROOM.shape_of("bin")),
    ("NoName", lambda: CHART.price_of("swim")),
    ("NoName", lambda: CHART.outs("peek", 0)),
    ("NoName", lambda: CHART.answer_of("walk", 0)),
    ("NoName", lambda: can_do(CHART, "swim", 1)),
    ("NoName", lambda: after(CHART, "peek", 1)),
    ("NoName", lambda: parts(CHART, "walk", 1)),
    ("NoName", lambda: KNOWER.note(("did", "peek"))),
    ("NoName", lambda: KNOWER.note(("saw", "walk", "red"))),
    ("NoName", lambda: KNOWER.note(("failed", "swim"))),
    ("TooMany", lambda: Atlas(WIDE, all_worlds(WIDE)[:201], [], [])),
    ("Cannot", lambda: after(CHART, "walk", 16)),
    ("Cannot", lambda: parts(CHART, "peek", 8)),
    ("NoStory", lambda: KNOWER.fitting(1)),
    ("NoStory", lambda: KNOWER.story(0, 2)),
]
LANDED = ["NoRoom", "NoWorld", "NoDeed", "NoLook", "NoFact", "NoChart", "NoName", "TooMany", "Cannot", "NoStory"]


class Refusals(unittest.TestCase):
    def test_something_is_refused_in_each_way(self):
        self.assertEqual(sorted({name for name, ask in REFUSED}), sorted(LANDED))

    def test_of_which_classes_each_refusal_is(self):
        others = [getattr(errors, name) for name in dir(errors) if name not in ("GropeError", "ValueError")]
        others = [found for found in others if isinstance(found, type)]
        self.assertEqual(len(others), 21)
        for number, (name, ask) in enumerate(REFUSED):
            with self.subTest(number=number, name=name):
                with self.assertRaises(ValueError) as taken:
                    ask()
                error = taken.exception
                self.assertIs(error.__class__, getattr(errors, name))
                self.assertIsInstance(error, errors.GropeError)
                self.assertEqual([other.__name__ for other in others if isinstance(error, other)], [name])

    def test_nothing_changes(self):
        for name, ask in REFUSED:
            with self.assertRaises(errors.GropeError):
                ask()
        self.assertEqual((KNOWER.time(), KNOWER.known(), KNOWER.fitting(0)), (0, 3, 3))
        self.assertEqual(len(ATLAS.worlds()), 2)


if __name__ == "__main__":
    unittest.main()
