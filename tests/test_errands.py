"""Point 16: errands on a chart; points 2 and 3 as far as they speak of errands."""

import unittest

from grope.atlas import Atlas
from grope.charts import Chart
from grope.errands import Errand, errand_of
from grope.errors import NoFact
from grope.facts import holds
from grope.rooms import Room
from grope.sets import set_of
from helper import CHART, DEEDS, LOOKS, SMALL, all_worlds, chart_told


class Told(unittest.TestCase):
    def check(self, errand, goal, keep):
        self.assertEqual((errand.goal(), errand.keep()), (goal, keep))
        self.assertIs(errand.goal().__class__, int)
        self.assertIs(errand.keep().__class__, int)

    def test_goal_and_keep(self):
        for goal in [0, 1, 5, 16, 31]:
            for keep in [0, 1, 2, 21, 31]:
                self.check(Errand(CHART, goal, keep), goal, keep)

    def test_no_keep_is_all_worlds(self):
        self.check(Errand(CHART, 6), 6, 31)
        self.check(Errand(CHART, 0), 0, 31)
        self.check(Errand(CHART, 6, None), 6, 31)
        for many in [1, 2, 64, 199, 200]:
            self.check(Errand(Chart(many, [], []), 1), 1, 2 ** many - 1)

    def test_an_empty_keep_is_no_missing_one(self):
        self.check(Errand(CHART, 6, 0), 6, 0)

    def test_by_their_names(self):
        self.check(Errand(chart=CHART, keep=3, goal=4), 4, 3)

    def test_the_last_of_many_worlds(self):
        chart = Chart(200, [], [])
        self.check(Errand(chart, 2 ** 199, 2 ** 199 + 2 ** 198), 2 ** 199, 2 ** 199 + 2 ** 198)

    def test_the_chart_tells_the_same(self):
        errand = Errand(CHART, 1)
        self.assertIsInstance(errand.chart(), Chart)
        self.assertEqual(chart_told(errand.chart()), (5, DEEDS, LOOKS))
        errand.chart().deed_names().clear()
        errand.chart().outs("fall", 4).clear()
        self.assertEqual(chart_told(errand.chart()), (5, DEEDS, LOOKS))

    def test_errands_of_one_chart_stay_apart(self):
        one = Errand(CHART, 1, 3)
        other = Errand(CHART, 2)
        self.check(one, 1, 3)
        self.check(other, 2, 31)


class FromTexts(unittest.TestCase):
    def setUp(self):
        self.room = Room(["place floor", "box bin", "thing ball round"])
        self.worlds = [
            (None, (("ball",), ()), ("open", "shut")),
            (None, (("ball",), ()), ("open", "open")),
            ("ball", ((), ()), ("open", "shut")),
            ("ball", ((), ()), ("open", "open")),
            (None, ((), ("ball",)), ("open", "open")),
            (None, ((), ("ball",)), ("open", "shut")),
        ]
        self.atlas = Atlas(self.room, self.worlds, [("open bin", 2)], [("feel hand", 1)])

    def test_by_hand(self):
        for text, goal, keep in [
            ("ball in bin", [4, 5], [0, 1, 2, 3, 4, 5]),
            ("bin shut", [0, 2, 5], [0, 1, 2, 3, 4, 5]),
            ("bin locked", [], [0, 1, 2, 3, 4, 5]),
            ("floor open", [0, 1, 2, 3, 4, 5], [0, 1, 2, 3, 4, 5]),
            ("ball in bin while bin open", [4, 5], [1, 3, 4]),
            ("bin open while ball in bin", [1, 3, 4], [4, 5]),
            ("ball held or bin shut while not ball in bin and free", [0, 2, 3, 5], [0, 1]),
            ("free while bin locked", [0, 1, 4, 5], []),
            ("bin locked while free or ball held", [], [0, 1, 2, 3, 4, 5]),
        ]:
            with self.subTest(text=text):
                errand = errand_of(self.atlas, text)
                self.assertIsInstance(errand, Errand)
                self.assertEqual(errand.goal(), set_of(goal))
                self.assertEqual(errand.keep(), set_of(keep))

    def test_the_chart_is_the_atlass(self):
        errand = errand_of(self.atlas, "free")
        self.assertEqual(chart_told(errand.chart()), chart_told(self.atlas.chart()))
        self.assertEqual(errand.chart().size(), 6)

    def test_two_hundred_worlds(self):
        room = SMALL[4]
        worlds = all_worlds(room)[:200]
        atlas = Atlas(room, worlds, [], [])
        for goal, keep in [("u in b", "free"), ("a locked or v on u", "not ab open and u top")]:
            errand = errand_of(atlas, f"{goal} while {keep}")
            for fact, found in [(goal, errand.goal()), (keep, errand.keep())]:
                self.assertEqual(found, set_of([k for k, world in enumerate(worlds) if holds(room, fact, world)]))

    def test_what_is_no_errand(self):
        for text in [
            "", " ", "ball", "while", "free while", "while free", " while free", "free while ", "free while ball",
            "ball while free", "free while free while free", "coin held", "free while coin held", "free while  free",
            "free  while free", "free and while free", "free while or free", "Free",
        ]:
            with self.subTest(text=text):
                with self.assertRaises(NoFact) as taken:
                    errand_of(self.atlas, text)
                self.assertIs(taken.exception.__class__, NoFact)


if __name__ == "__main__":
    unittest.main()
