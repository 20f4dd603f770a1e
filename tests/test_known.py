"""Points 17 to 19: what steps make of sets, and what is known; 2 and 3 as far as they speak of these."""

import itertools
import unittest

from grope.charts import Chart
from grope.errors import Cannot, NoName, NoStory
from grope.known import Knower, after, can_do, parts
from grope.sets import set_of, worlds_of
from helper import CHART, DEEDS, LOOKS, chart_told

ALL_WORLDS = [0, 1, 2, 3, 4]
ALL = set_of(ALL_WORLDS)

# Beside the chart that is written out in the helper: lone worlds, dead ends, rings, looks that tell all and nothing.
TABLES = [
    (1, [("a", [[]])], [("l", ["x"])]),
    (1, [("a", [[0]])], [("l", [None])]),
    (2, [("a", [[0, 1], []])], [("l", ["x", "y"])]),
    (2, [("a", [[1], [0, 1]])], [("l", [None, "y"])]),
    (3, [("a", [[1, 2], [2], []]), ("b", [[], [0], [0, 1, 2]])], [("l", ["x", "y", None])]),
    (3, [("a", [[1], [2], [0]]), ("b", [[0, 2], [], [2]])], [("l", ["y", "x", "y"])]),
    (4, [("a", [[1, 2], [3], [3], []]), ("b", [[], [0, 2], [1], [0, 3]])], [("l", [None, "x", "y", "x"])]),
]


def chart_of(many, deeds, looks):
    return Chart(many, [(name, 1, table) for name, table in deeds], [(name, 1, table) for name, table in looks])


def sets_below(many):
    return range(2 ** many)


class KnownTest(unittest.TestCase):
    def refused(self, refusal, ask, *given):
        with self.subTest(given=given):
            with self.assertRaises(refusal) as taken:
                ask(*given)
            self.assertIs(taken.exception.__class__, refusal)
            return taken.exception


class CanDo(KnownTest):
    def test_by_hand(self):
        for name, worlds, can in [
            ("walk", [0], True),
            ("walk", [4], False),
            ("walk", [0, 1, 2, 3], True),
            ("walk", [0, 1, 2, 3, 4], False),
            ("rest", [0, 1, 2, 3, 4], True),
            ("fall", [0, 2, 4], True),
            ("fall", [0, 1, 2], False),
            ("fall", [1, 3], False),
            ("dive", [2], False),
            ("peek", [0, 1, 2, 4], True),
            ("peek", [3], False),
            ("peek", [0, 1, 2, 3], False),
            ("ask", [0], False),
            ("hear", [0, 1, 2, 3, 4], True),
        ]:
            with self.subTest(name=name, worlds=worlds):
                self.assertIs(can_do(CHART, name, set_of(worlds)), can)

    def test_the_empty_set(self):
        for name in CHART.deed_names() + CHART.look_names():
            self.assertIs(can_do(CHART, name, 0), True)

    def test_each_set(self):
        for some in sets_below(5):
            for name, price, table in DEEDS:
                self.assertIs(can_do(CHART, name, some), all(table[world] for world in worlds_of(some)))
            for name, price, table in LOOKS:
                self.assertIs(can_do(CHART, name, some), all(table[world] is not None for world in worlds_of(some)))

    def test_no_such_name(self):
        for name in ["", "swim", "red", "walk ", " peek", "Walk", "x" * 300]:
            for some in [0, 1, ALL]:
                self.refused(NoName, can_do, CHART, name, some)


class After(KnownTest):
    def test_by_hand(self):
        for name, worlds, made in [
            ("walk", [], []),
            ("walk", [0], [1]),
            ("walk", [0, 3], [1, 4]),
            ("walk", [0, 1, 2, 3], [1, 2, 3, 4]),
            ("rest", [0, 1, 2, 3, 4], [0, 1, 2, 3, 4]),
            ("rest", [1, 4], [1, 4]),
            ("fall", [0], [0, 1]),
            ("fall", [2], [0, 2, 4]),
            ("fall", [0, 2], [0, 1, 2, 4]),
            ("fall", [4], [0, 1, 2, 3, 4]),
            ("dive", [], []),
        ]:
            with self.subTest(name=name, worlds=worlds):
                found = after(CHART, name, set_of(worlds))
                self.assertEqual(found, set_of(made))
                self.assertIs(found.__class__, int)

    def test_cannot(self):
        for name, worlds, world in [
            ("walk", [4], 4),
            ("walk", [0, 1, 2, 3, 4], 4),
            ("fall", [0, 1, 2, 3, 4], 1),
            ("fall", [2, 3, 4], 3),
            ("fall", [1, 3], 1),
            ("dive", [0, 1], 0),
            ("dive", [2], 2),
        ]:
            error = self.refused(Cannot, after, CHART, name, set_of(worlds))
            self.assertEqual((error.name, error.world), (name, world))

    def test_each_set(self):
        for some in sets_below(5):
            for name, price, table in DEEDS:
                wrong = [world for world in worlds_of(some) if table[world] == []]
                if wrong:
                    error = self.refused(Cannot, after, CHART, name, some)
                    self.assertEqual((error.name, error.world), (name, wrong[0]))
                else:
                    made = {new for world in worlds_of(some) for new in table[world]}
                    self.assertEqual(after(CHART, name, some), set_of(sorted(made)))

    def test_no_deed(self):
        for name in ["", "swim", "red", "walk ", "Walk", "peek", "ask", "hear"]:
            for some in [0, 1, 8, ALL]:
                self.refused(NoName, after, CHART, name, some)

    def test_two_hundred_worlds(self):
        chart = Chart(200, [("on", 1, [[k + 1] for k in range(199)] + [[]]), ("all", 1, [list(range(200))] * 200)], [])
        self.assertEqual(after(chart, "on", 2 ** 199 - 1), 2 ** 200 - 2)
        self.assertEqual(after(chart, "on", 2 ** 198), 2 ** 199)
        self.assertEqual(after(chart, "all", 2 ** 199), 2 ** 200 - 1)
        error = self.refused(Cannot, after, chart, "on", 2 ** 200 - 1)
        self.assertEqual((error.name, error.world), ("on", 199))


class Parts(KnownTest):
    def test_by_hand(self):
        for name, worlds, told_parts in [
            ("peek", [], []),
            ("peek", [0], [("red", [0])]),
            ("peek", [0, 2], [("red", [0, 2])]),
            ("peek", [0, 1], [("blue", [1]), ("red", [0])]),
            ("peek", [0, 1, 2, 4], [("blue", [1, 4]), ("red", [0, 2])]),
            ("hear", [0, 1, 2, 3, 4], [("hum", [0, 1, 2, 3, 4])]),
            ("ask", [], []),
            # As texts, ten stands ahead of two.
            ("count", [0, 1, 2, 3], [("0", [3]), ("10", [1]), ("2", [2]), ("4", [0])]),
            ("count", [0, 1], [("10", [1]), ("4", [0])]),
        ]:
            with self.subTest(name=name, worlds=worlds):
                found = parts(CHART, name, set_of(worlds))
                self.assertEqual(found, [(answer, set_of(some)) for answer, some in told_parts])
                self.assertIs(found.__class__, list)
                self.assertLessEqual({part.__class__ for part in found}, {tuple})

    def test_cannot(self):
        for name, worlds, world in [
            ("peek", [3], 3),
            ("peek", [0, 1, 2, 3, 4], 3),
            ("ask", [2, 4], 2),
            ("count", [1, 4], 4),
        ]:
            error = self.refused(Cannot, parts, CHART, name, set_of(worlds))
            self.assertEqual((error.name, error.world), (name, world))

    def test_each_set(self):
        for some in sets_below(5):
            for name, price, table in LOOKS:
                worlds = worlds_of(some)
                wrong = [world for world in worlds if table[world] is None]
                if wrong:
                    error = self.refused(Cannot, parts, CHART, name, some)
                    self.assertEqual((error.name, error.world), (name, wrong[0]))
                else:
                    answers = sorted({table[world] for world in worlds})
                    split = [[world for world in worlds if table[world] == answer] for answer in answers]
                    self.assertEqual(parts(CHART, name, some), list(zip(answers, map(set_of, split))))

    def test_no_look(self):
        for name in ["", "swim", "red", "peek ", "Peek", "walk", "dive"]:
            for some in [0, 1, 8, ALL]:
                self.refused(NoName, parts, CHART, name, some)

    def test_sorted_as_python_sorts_texts(self):
        answers = ["b", "B", "~", " ", "a b", "ab", "a", "10", "9", "-", "aa"]
        chart = Chart(len(answers), [], [("l", 1, answers)])
        found = parts(chart, "l", 2 ** len(answers) - 1)
        self.assertEqual(found, sorted((answer, 2 ** world) for world, answer in enumerate(answers)))

    def test_two_hundred_worlds(self):
        chart = Chart(200, [], [("third", 1, [f"{k % 3}" for k in range(199)] + [None]), ("none", 1, [None] * 200)])
        split = [set_of([k for k in range(199) if k % 3 == rest]) for rest in range(3)]
        self.assertEqual(parts(chart, "third", 2 ** 199 - 1), list(zip(["0", "1", "2"], split)))
        self.assertEqual(self.refused(Cannot, parts, chart, "third", 2 ** 200 - 1).world, 199)
        self.assertEqual(self.refused(Cannot, parts, chart, "none", 2 ** 199).world, 199)

    def test_a_told_list_is_the_askers_own(self):
        chart = Chart(5, DEEDS, LOOKS)
        first = parts(chart, "peek", 7)
        second = parts(chart, "peek", 7)
        first[0] = ("red", 99)
        first.append(("more", 1))
        self.assertEqual(second, [("blue", 2), ("red", 5)])
        self.assertEqual(parts(chart, "peek", 7), second)
        parts(chart, "peek", 0).append(("more", 1))
        self.assertEqual(parts(chart, "peek", 0), [])

    def test_asked_again_the_same(self):
        chart = Chart(5, DEEDS, LOOKS)
        for turn in range(3):
            self.assertEqual(after(chart, "fall", 5), 23)
            self.assertEqual(parts(chart, "peek", 23), [("blue", 18), ("red", 5)])
            self.assertIs(can_do(chart, "walk", 15), True)
            self.refused(Cannot, after, chart, "walk", 16)
            self.refused(Cannot, parts, chart, "peek", 8)
            self.refused(NoName, after, chart, "peek", 1)
        self.assertEqual(chart_told(chart), (5, DEEDS, LOOKS))


class Events(KnownTest):
    def noting(self, some, steps):
        """Notes the events, and holds what is known and the time against those told beside each."""
        knower = Knower(CHART, some)
        self.assertEqual((knower.time(), knower.known()), (0, some))
        for number, (event, worlds) in enumerate(steps, start=1):
            self.assertIsNone(knower.note(event))
            self.assertEqual(knower.known(), set_of(worlds), event)
            self.assertIs(knower.known().__class__, int)
            self.assertEqual(knower.time(), number)
        return knower

    def test_before_any_event(self):
        for some in [0, 1, 16, ALL]:
            self.noting(some, [])

    def test_did(self):
        self.noting(ALL, [(("did", "walk"), [1, 2, 3, 4]), (("did", "walk"), [2, 3, 4]), (("did", "fall"), ALL_WORLDS)])
        self.noting(5, [(("did", "fall"), [0, 1, 2, 4]), (("did", "walk"), [1, 2, 3])])
        self.noting(1, [(("did", "rest"), [0]), (("did", "walk"), [1])])

    def test_did_what_cannot_be_done_in_some(self):
        self.noting(set_of([0, 1]), [(("did", "fall"), [0, 1]), (("did", "fall"), [0, 1])])
        self.noting(set_of([1, 3]), [(("did", "fall"), []), (("did", "rest"), [])])

    def test_saw(self):
        self.noting(ALL, [
            (("saw", "peek", "red"), [0, 2]), (("saw", "count", "2"), [2]), (("saw", "hear", "hum"), [2]),
        ])
        self.noting(ALL, [(("saw", "peek", "blue"), [1, 4])])

    def test_saw_what_no_world_tells(self):
        self.noting(ALL, [(("saw", "peek", "green"), [])])
        self.noting(ALL, [(("saw", "ask", "red"), [])])
        self.noting(ALL, [(("saw", "peek", "None"), [])])
        self.noting(ALL, [(("saw", "peek", " "), [])])
        self.noting(ALL, [(("saw", "hear", "x" * 30), [])])
        self.noting(set_of([0, 2]), [(("saw", "peek", "blue"), [])])

    def test_failed(self):
        self.noting(ALL, [(("failed", "walk"), [4])])
        self.noting(ALL, [(("failed", "fall"), [1, 3]), (("failed", "peek"), [3])])
        self.noting(ALL, [(("failed", "ask"), [0, 1, 2, 3, 4]), (("failed", "dive"), [0, 1, 2, 3, 4])])
        self.noting(ALL, [(("failed", "rest"), [])])
        self.noting(ALL, [(("failed", "hear"), [])])

    def test_known_stays_empty(self):
        self.noting(ALL, [
            (("failed", "hear"), []), (("did", "rest"), []), (("saw", "hear", "hum"), []), (("failed", "walk"), []),
        ])
        self.noting(0, [(("did", "rest"), []), (("saw", "hear", "hum"), []), (("failed", "dive"), [])])

    def test_in_turn(self):
        self.noting(set_of([0, 1, 2]), [
            (("saw", "peek", "red"), [0, 2]),
            (("did", "fall"), [0, 1, 2, 4]),
            (("failed", "fall"), [1]),
            (("did", "walk"), [2]),
            (("saw", "count", "2"), [2]),
            (("failed", "ask"), [2]),
            (("did", "walk"), [3]),
            (("failed", "peek"), [3]),
        ])

    def test_no_such_name(self):
        events = [(("did", name)) for name in ["peek", "ask", "swim", "", "walk "]]
        events += [("saw", name, "red") for name in ["walk", "dive", "swim", "", "peek "]]
        events += [("failed", name) for name in ["swim", "", "red", "walk ", "Peek"]]
        for some in [0, 4, ALL]:
            knower = Knower(CHART, some)
            for event in events:
                self.refused(NoName, knower.note, event)
                self.assertEqual((knower.time(), knower.known(), knower.fitting(0)), (0, some, some))
                self.refused(NoStory, knower.fitting, 1)

    def test_a_refused_event_changes_nothing_between_others(self):
        knower = Knower(CHART, ALL)
        knower.note(("saw", "peek", "red"))
        for event in [("did", "peek"), ("saw", "walk", "red"), ("failed", "swim")]:
            self.refused(NoName, knower.note, event)
        knower.note(("did", "walk"))
        self.assertEqual((knower.time(), knower.known()), (2, 10))
        self.assertEqual([knower.fitting(time) for time in range(3)], [5, 5, 10])
        self.assertEqual(knower.story(2, 3), [2, 2, 3])

    def test_two_hands_stay_apart(self):
        one = Knower(CHART, ALL)
        other = Knower(CHART, ALL)
        one.note(("did", "walk"))
        other.note(("saw", "peek", "red"))
        one.note(("failed", "walk"))
        self.assertEqual((one.known(), one.time()), (16, 2))
        self.assertEqual((other.known(), other.time()), (5, 1))
        other.note(("did", "fall"))
        self.assertEqual((other.known(), other.time()), (23, 2))
        self.assertEqual((one.known(), one.time()), (16, 2))
        self.assertEqual([one.fitting(time) for time in range(3)], [8, 16, 16])
        self.assertEqual([other.fitting(time) for time in range(3)], [5, 5, 23])
        self.assertEqual(one.story(0, 3), [3, 4, 4])

    def test_sixty_events(self):
        ring = Chart(60, [("on", 1, [[(k + 1) % 60] for k in range(60)])], [("zero", 1, ["yes"] + ["no"] * 59)])
        knower = Knower(ring, 2 ** 60 - 1)
        for number in range(59):
            knower.note(("did", "on"))
            self.assertEqual(knower.known(), 2 ** 60 - 1)
        knower.note(("saw", "zero", "yes"))
        self.assertEqual((knower.time(), knower.known()), (60, 1))
        self.assertEqual(knower.fitting(0), 2)
        self.assertEqual(knower.fitting(59), 1)
        self.assertEqual(knower.story(30, 31), list(range(1, 60)) + [0, 0])

    def test_the_chart_stays(self):
        chart = Chart(5, DEEDS, LOOKS)
        knower = Knower(chart, ALL)
        for event in [("did", "fall"), ("saw", "peek", "red"), ("failed", "dive")]:
            knower.note(event)
            knower.story(knower.time(), 0)
        self.assertEqual(chart_told(chart), (5, DEEDS, LOOKS))


def goes_on(tables, event, world):
    """The worlds that may come behind an event in a world, straight from point 18 and the tables."""
    many, deeds, looks = tables
    entry = dict(deeds + looks)[event[1]][world]
    if event[0] == "did":
        return entry
    fits = entry == event[2] if event[0] == "saw" else entry in ([], None)
    return [world] if fits else []


def all_stories(tables, some, events):
    found = [[world] for world in worlds_of(some)]
    for event in events:
        found = [story + [new] for story in found for new in goes_on(tables, event, story[-1])]
    return found


def all_events(tables):
    many, deeds, looks = tables
    found = [("did", name) for name, table in deeds]
    found += [("saw", name, answer) for name, table in looks for answer in ["x", "y"]]
    return found + [("failed", name) for name, table in deeds + looks]


class Stories(KnownTest):
    def check(self, tables, some, events):
        """Holds what a hand tells against every story there is."""
        many = tables[0]
        knower = Knower(chart_of(*tables), some)
        for event in events:
            knower.note(event)
        stories = all_stories(tables, some, events)
        self.assertEqual(knower.time(), len(events))
        self.assertEqual(knower.known(), set_of([story[-1] for story in stories]))
        for time in range(len(events) + 1):
            fits = {story[time] for story in stories}
            self.assertEqual(knower.fitting(time), set_of(sorted(fits)))
            for world in range(many):
                if world in fits:
                    story = knower.story(time, world)
                    self.assertEqual(story[time], world)
                    self.assertIn(story, stories)
                else:
                    with self.assertRaises(NoStory):
                        knower.story(time, world)

    def test_every_run_of_few_events(self):
        for tables in TABLES:
            many = tables[0]
            for length in range(4):
                for events in itertools.product(all_events(tables), repeat=length):
                    self.check(tables, 2 ** many - 1, events)

    def test_every_set_at_the_beginning(self):
        for tables in TABLES:
            for some in sets_below(tables[0]):
                for events in itertools.product(all_events(tables), repeat=2):
                    self.check(tables, some, events)

    def test_longer_runs(self):
        for tables in TABLES[2:]:
            events = all_events(tables)
            for step in range(1, 12):
                run = [events[step * k * (k + 1) // 2 % len(events)] for k in range(7)]
                for spot in range(7):
                    self.check(tables, 2 ** tables[0] - 1, run[spot:])

    def test_deeds_alone(self):
        for tables in TABLES[2:]:
            names = [("did", name) for name, table in tables[1]]
            for events in itertools.product(names, repeat=5):
                self.check(tables, 2 ** tables[0] - 1, events)


class ByHand(KnownTest):
    def test_later_events_count_for_earlier_times(self):
        knower = Knower(CHART, ALL)
        self.assertEqual(knower.fitting(0), ALL)
        knower.note(("did", "walk"))
        self.assertEqual([knower.fitting(time) for time in range(2)], [15, 30])
        knower.note(("saw", "peek", "blue"))
        self.assertEqual([knower.fitting(time) for time in range(3)], [9, 18, 18])
        knower.note(("failed", "walk"))
        self.assertEqual([knower.fitting(time) for time in range(4)], [8, 16, 16, 16])
        self.assertEqual(knower.story(0, 3), [3, 4, 4, 4])
        self.assertEqual(knower.story(3, 4), [3, 4, 4, 4])
        knower.note(("failed", "rest"))
        self.assertEqual([knower.fitting(time) for time in range(5)], [0, 0, 0, 0, 0])

    def test_a_story_goes_on_both_ways(self):
        knower = Knower(CHART, set_of([0, 3]))
        for event in [("did", "walk"), ("did", "walk"), ("saw", "peek", "red"), ("did", "fall"), ("failed", "walk")]:
            knower.note(event)
        for time, world in enumerate([0, 1, 2, 2, 4, 4]):
            self.assertEqual(knower.fitting(time), 2 ** world)
            self.assertEqual(knower.story(time, world), [0, 1, 2, 2, 4, 4])

    def test_before_any_event(self):
        knower = Knower(CHART, 10)
        self.assertEqual(knower.fitting(0), 10)
        self.assertEqual(knower.story(0, 1), [1])
        self.assertEqual(knower.story(0, 3), [3])
        self.refused(NoStory, knower.story, 0, 0)
        self.refused(NoStory, knower.story, 0, 4)

    def test_where_nothing_is_known(self):
        knower = Knower(CHART, ALL)
        knower.note(("did", "rest"))
        knower.note(("saw", "peek", "green"))
        for time in range(3):
            self.assertEqual(knower.fitting(time), 0)
            for world in range(5):
                self.refused(NoStory, knower.story, time, world)
        empty = Knower(CHART, 0)
        self.assertEqual(empty.fitting(0), 0)
        self.refused(NoStory, empty.story, 0, 0)

    def test_no_such_time(self):
        for events in [[], [("did", "rest")], [("did", "rest"), ("failed", "ask")], [("failed", "hear")]]:
            knower = Knower(CHART, ALL)
            for event in events:
                knower.note(event)
            for time in [-1, -2, -10 ** 59, len(events) + 1, len(events) + 2, 61, 10 ** 59]:
                self.refused(NoStory, knower.fitting, time)
                for world in [0, 4, 5, -1]:
                    self.refused(NoStory, knower.story, time, world)
            self.assertEqual(knower.time(), len(events))

    def test_worlds_that_are_none(self):
        knower = Knower(CHART, ALL)
        knower.note(("did", "rest"))
        for world in [-1, -5, 5, 6, 199, 200, 10 ** 59, -10 ** 59]:
            for time in [0, 1]:
                self.refused(NoStory, knower.story, time, world)

    def test_a_refusal_changes_nothing(self):
        knower = Knower(CHART, 7)
        knower.note(("did", "walk"))
        for time, world in [(0, 3), (1, 0), (2, 0), (-1, 0)]:
            self.refused(NoStory, knower.story, time, world)
        self.assertEqual((knower.time(), knower.known(), knower.fitting(0), knower.fitting(1)), (1, 14, 7, 14))

    def test_asked_between_the_events(self):
        knower = Knower(CHART, ALL)
        for time, (event, worlds) in enumerate([
            (("did", "walk"), [0, 1, 2, 3]), (("did", "walk"), [0, 1, 2]), (("saw", "peek", "red"), [0]),
            (("did", "rest"), [0]), (("failed", "walk"), []),
        ], start=1):
            self.assertEqual(knower.fitting(time - 1), knower.known())
            knower.note(event)
            self.assertEqual(knower.fitting(0), set_of(worlds))
            self.assertEqual(knower.fitting(time), knower.known())

    def test_a_told_story_is_the_askers_own(self):
        knower = Knower(CHART, 1)
        knower.note(("did", "walk"))
        first = knower.story(0, 0)
        second = knower.story(0, 0)
        first[0] = 4
        first.append(9)
        self.assertEqual(second, [0, 1])
        self.assertEqual(knower.story(0, 0), [0, 1])
        knower.note(("did", "walk"))
        self.assertEqual(second, [0, 1])
        self.assertEqual(knower.story(0, 0), [0, 1, 2])

    def test_two_hundred_worlds(self):
        many = 200
        deeds = [("on", 1, [[k, k + 1] for k in range(199)] + [[199]])]
        chart = Chart(many, deeds, [("last", 1, ["no"] * 199 + ["yes"])])
        knower = Knower(chart, 2 ** many - 1)
        for turn in range(20):
            knower.note(("did", "on"))
        knower.note(("saw", "last", "yes"))
        self.assertEqual(knower.known(), 2 ** 199)
        for time in range(22):
            fits = [k for k in range(many) if k + 20 - min(time, 20) >= 199]
            self.assertEqual(worlds_of(knower.fitting(time)), fits)
            for world in fits:
                story = knower.story(time, world)
                self.assertEqual((len(story), story[time], story[-2:]), (22, world, [199, 199]))
                for one, other in zip(story[:21], story[1:21]):
                    self.assertIn(other, [one, min(one + 1, 199)])


if __name__ == "__main__":
    unittest.main()
