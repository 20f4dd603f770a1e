"""Point 14: charts; points 2 and 3 as far as they speak of charts."""

import copy
import unittest

from grope.charts import Chart
from grope.errors import NoChart, NoName
from helper import CHART, DEEDS, LOOKS, chart_told


class ChartsTest(unittest.TestCase):
    def tells(self, many, deeds, looks):
        self.assertEqual(chart_told(Chart(many, deeds, looks)), (many, deeds, looks))


class Told(ChartsTest):
    def test_by_hand(self):
        self.assertEqual(CHART.size(), 5)
        self.assertEqual(CHART.deed_names(), ["walk", "rest", "fall", "dive"])
        self.assertEqual(CHART.look_names(), ["peek", "ask", "hear", "count"])
        self.assertEqual(CHART.price_of("walk"), 3)
        self.assertEqual(CHART.price_of("fall"), 10)
        self.assertEqual(CHART.price_of("peek"), 2)
        self.assertEqual(CHART.price_of("ask"), 7)
        self.assertEqual(CHART.outs("walk", 0), [1])
        self.assertEqual(CHART.outs("walk", 3), [4])
        self.assertEqual(CHART.outs("walk", 4), [])
        self.assertEqual(CHART.outs("rest", 4), [4])
        self.assertEqual(CHART.outs("fall", 0), [0, 1])
        self.assertEqual(CHART.outs("fall", 1), [])
        self.assertEqual(CHART.outs("fall", 2), [0, 2, 4])
        self.assertEqual(CHART.outs("fall", 4), [0, 1, 2, 3, 4])
        self.assertEqual(CHART.answer_of("peek", 0), "red")
        self.assertEqual(CHART.answer_of("peek", 1), "blue")
        self.assertIsNone(CHART.answer_of("peek", 3))
        self.assertIsNone(CHART.answer_of("ask", 0))
        self.assertEqual(CHART.answer_of("count", 1), "10")

    def test_each_entry(self):
        self.tells(5, DEEDS, LOOKS)

    def test_kinds(self):
        self.assertIs(CHART.size().__class__, int)
        for told_list in [CHART.deed_names(), CHART.look_names(), CHART.outs("fall", 2), CHART.outs("walk", 4)]:
            self.assertIs(told_list.__class__, list)

    def test_no_deed_and_no_look(self):
        for many in [1, 2, 199, 200]:
            self.tells(many, [], [])
        self.tells(5, [], LOOKS)
        self.tells(5, DEEDS, [])

    def test_one_world(self):
        self.tells(1, [("a", 1, [[]]), ("b", 2, [[0]])], [("c", 3, [None]), ("d", 4, ["0"])])

    def test_two_hundred_worlds(self):
        self.tells(
            200,
            [
                ("on", 1, [[world + 1] for world in range(199)] + [[]]),
                ("back", 1, [[]] + [[world - 1] for world in range(1, 200)]),
                ("any", 1, [list(range(200)) for world in range(200)]),
                ("odd", 1, [list(range(1, 200, 2)) if world == 199 else [0, 199] for world in range(200)]),
            ],
            [
                ("number", 1, [f"{world}" for world in range(200)]),
                ("last", 1, [None] * 199 + ["here"]),
                ("first", 1, ["here"] + [None] * 199),
            ],
        )

    def test_forty_of_each(self):
        deeds = [(f"deed {40 - k}", k + 1, [[k % 3], [], [0, 1, 2]]) for k in range(40)]
        looks = [(f"look {40 - k}", 100 - k, [f"{k}", None, "same"]) for k in range(40)]
        self.tells(3, deeds, looks)
        self.tells(3, deeds, [])
        self.tells(3, [], looks)

    def test_each_list_of_entries_of_three_worlds(self):
        entries = [[], [0], [1], [2], [0, 1], [0, 2], [1, 2], [0, 1, 2]]
        for first in entries:
            for second in entries:
                self.tells(3, [("go", 1, [first, second, [1]])], [])

    def test_names_and_answers(self):
        texts = [
            "a", " ", "~", "-", "Z", "0", "a" * 30, " " * 30, " a", "a ", "  two  words  ", "(a, b)", "None", "'", '"',
            "\\", "{}", "a" * 29 + " ", "take floor", "!\"#$&'()*+,-./0123456789:;<=>?",
        ]
        self.assertEqual(len(texts[-1]), 30)
        for one in texts:
            for other in texts:
                if one != other:
                    self.tells(2, [(one, 1, [[1], []])], [(other, 1, [one, other])])
        self.tells(2, [(text, 7, [[], [1]]) for text in texts], [])
        self.tells(2, [], [(text, 7, [text, None]) for text in texts])

    def test_names_that_begin_alike_are_unlike(self):
        names = ["a", "aa", "a ", " a", "A", "aaa"]
        self.tells(1, [(name, k + 1, [[]]) for k, name in enumerate(names[:3])],
                   [(name, k + 9, [f"{k}"]) for k, name in enumerate(names[3:])])

    def test_an_answer_may_be_a_name(self):
        self.tells(1, [("a", 1, [[0]])], [("b", 1, ["b"]), ("c", 1, ["a"])])

    def test_prices(self):
        for price in [1, 2, 10 ** 9 - 1, 10 ** 9]:
            self.tells(1, [("a", price, [[0]]), ("b", 5, [[0]])], [("c", 5, ["x"]), ("d", price, ["x"])])

    def test_answers_are_not_bounded_by_a_refusal(self):
        self.tells(2, [], [("a", 1, ["", "x" * 31])])


class Copied(ChartsTest):
    def test_what_is_handed_in_stays(self):
        deeds, looks = copy.deepcopy(DEEDS), copy.deepcopy(LOOKS)
        chart = Chart(5, deeds, looks)
        chart_told(chart)
        self.assertEqual((deeds, looks), (DEEDS, LOOKS))

    def test_what_is_handed_in_is_copied(self):
        deeds, looks = copy.deepcopy(DEEDS), copy.deepcopy(LOOKS)
        chart = Chart(5, deeds, looks)
        deeds[0][2][0].append(3)
        deeds[0][2][1].clear()
        deeds[1][2][2] = [0]
        deeds[2][2].append([0])
        deeds[3] = ("fly", 1, [[0]] * 5)
        deeds.append(("swim", 1, [[0]] * 5))
        looks[0][2][0] = "green"
        looks[1][2].clear()
        looks[2] = ("smell", 1, ["x"] * 5)
        looks.clear()
        self.assertEqual(chart_told(chart), (5, DEEDS, LOOKS))

    def test_a_table_that_serves_twice(self):
        table = [[1], []]
        answers = ["x", None]
        chart = Chart(2, [("a", 1, table), ("b", 1, table)], [("c", 1, answers), ("d", 1, answers)])
        table[1].append(0)
        answers[1] = "y"
        self.assertEqual(chart_told(chart), (
            2, [("a", 1, [[1], []]), ("b", 1, [[1], []])], [("c", 1, ["x", None]), ("d", 1, ["x", None])],
        ))

    def test_a_told_list_is_the_askers_own(self):
        chart = Chart(5, DEEDS, LOOKS)
        for ask in [
            chart.deed_names, chart.look_names, lambda: chart.outs("fall", 4), lambda: chart.outs("walk", 4),
        ]:
            first = ask()
            second = ask()
            first.append("more")
            first[0] = "other"
            self.assertEqual(second, ask())
            second.clear()
            self.assertEqual(chart_told(chart), (5, DEEDS, LOOKS))

    def test_two_charts_stay_apart(self):
        one = Chart(2, [("a", 1, [[0], [1]])], [("b", 2, ["x", None])])
        other = Chart(3, [("a", 5, [[], [], [2]])], [("b", 6, [None, "y", "z"])])
        self.assertEqual(chart_told(one), (2, [("a", 1, [[0], [1]])], [("b", 2, ["x", None])]))
        self.assertEqual(chart_told(other), (3, [("a", 5, [[], [], [2]])], [("b", 6, [None, "y", "z"])]))


class NoSuchName(ChartsTest):
    def refused(self, ask, *given):
        with self.subTest(given=given):
            with self.assertRaises(NoName) as taken:
                ask(*given)
            self.assertIs(taken.exception.__class__, NoName)

    def test_no_deed(self):
        for name in ["peek", "ask", "hear", "red", "", "walk ", " walk", "Walk", "wal", "walkk", "x" * 300]:
            for world in [0, 4]:
                self.refused(CHART.outs, name, world)

    def test_no_look(self):
        for name in ["walk", "dive", "red", "hum", "", "peek ", " peek", "Peek", "pee", "peekk", "x" * 300]:
            for world in [0, 4]:
                self.refused(CHART.answer_of, name, world)

    def test_neither(self):
        for name in ["red", "hum", "", "walk ", " peek", "Walk", "x" * 300]:
            self.refused(CHART.price_of, name)

    def test_a_chart_without_steps(self):
        chart = Chart(1, [], [])
        self.refused(chart.outs, "walk", 0)
        self.refused(chart.answer_of, "peek", 0)
        self.refused(chart.price_of, "walk")

    def test_nothing_changes(self):
        chart = Chart(5, DEEDS, LOOKS)
        self.refused(chart.outs, "swim", 0)
        self.refused(chart.answer_of, "swim", 0)
        self.refused(chart.price_of, "swim")
        self.assertEqual(chart_told(chart), (5, DEEDS, LOOKS))


class Refused(ChartsTest):
    def refused(self, many, deeds, looks):
        handed = copy.deepcopy((deeds, looks))
        with self.subTest(many=many, deeds=deeds, looks=looks):
            with self.assertRaises(NoChart) as taken:
                Chart(many, deeds, looks)
            self.assertIs(taken.exception.__class__, NoChart)
            self.assertEqual((deeds, looks), handed)

    def refused_among(self, bad, bad_look=None):
        """A bad deed (and a bad look) of two worlds, first, last and in between among good ones."""
        deeds = [("d", 1, [[0], [1]]), ("e", 1, [[], [0, 1]])]
        looks = [("l", 1, ["x", None]), ("m", 1, ["x", "y"])]
        self.tells(2, deeds, looks)
        for spot in range(3):
            if bad is not None:
                self.refused(2, deeds[:spot] + [bad] + deeds[spot:], looks)
            if bad_look is not None:
                self.refused(2, deeds, looks[:spot] + [bad_look] + looks[spot:])

    def test_no_world_and_fewer(self):
        for many in [0, -1, -2, -200, -10 ** 59]:
            self.refused(many, [], [])
        self.refused(0, [("a", 1, [])], [("b", 1, [])])

    def test_too_many_worlds(self):
        for many in [201, 202, 255, 256, 1000, 10 ** 59]:
            self.refused(many, [], [])
        self.refused(201, [("a", 1, [[]] * 201)], [("b", 1, [None] * 201)])
        self.refused(201, [("a", 1, [[200]] * 201)], [])

    def test_too_many_steps(self):
        for many in [41, 42, 80, 81]:
            deeds = [(f"d{k}", 1, [[0]]) for k in range(many)]
            looks = [(f"l{k}", 1, ["x"]) for k in range(many)]
            self.refused(1, deeds, [])
            self.refused(1, [], looks)
            self.refused(1, deeds, looks[:40])
            self.refused(1, deeds[:40], looks)
            self.tells(1, deeds[:40], looks[:40])

    def test_a_name_without_signs_or_of_too_many(self):
        for name in ["", "a" * 31, " " * 31, "a" * 32, "a" * 300]:
            self.refused_among((name, 1, [[0], [1]]), (name, 1, ["x", "y"]))

    def test_a_name_twice(self):
        for name in ["d", "e", "l", "m"]:
            self.refused_among((name, 1, [[0], [1]]), (name, 1, ["x", "y"]))
            self.refused_among((name, 9, [[], []]), (name, 9, [None, None]))
        self.refused(1, [("a", 1, [[0]]), ("a", 1, [[0]])], [])
        self.refused(1, [], [("a", 1, ["x"]), ("a", 1, ["x"])])
        self.refused(1, [("a", 1, [[0]])], [("a", 1, ["x"])])

    def test_a_price_out_of_bounds(self):
        for price in [0, -1, -10 ** 9, 10 ** 9 + 1, 10 ** 9 + 2, 10 ** 59]:
            self.refused_among(("a", price, [[0], [1]]), ("a", price, ["x", "y"]))

    def test_a_table_of_another_length(self):
        for entries in [[], [[0]], [[0], [1], [0]], [[0], [1], [0], [1]], [[]], [[], [], []]]:
            self.refused_among(("a", 1, entries))
        for answers in [[], ["x"], ["x", "y", "x"], ["x", "y", "x", "y"], [None], [None, None, None]]:
            self.refused_among(None, ("a", 1, answers))
        self.refused(200, [("a", 1, [[0]] * 199)], [])
        self.refused(200, [("a", 1, [[0]] * 201)], [])
        self.refused(200, [], [("a", 1, ["x"] * 199)])
        self.refused(200, [], [("a", 1, ["x"] * 201)])
        self.refused(1, [("a", 1, [])], [])
        self.refused(1, [], [("a", 1, [])])

    def test_an_entry_that_does_not_rise(self):
        for entry in [[1, 0], [0, 0], [1, 1], [0, 1, 1], [0, 0, 1], [0, 1, 0]]:
            self.refused_among(("a", 1, [entry, [0]]))
            self.refused_among(("a", 1, [[0], entry]))
        for entry in [[0, 2, 1], [2, 0, 1], [0, 1, 3, 2], [3, 2, 1, 0], [1, 1, 2, 3], [0, 1, 2, 2], [0, 2, 2, 3]]:
            self.refused(4, [("a", 1, [[0], [1], entry, [3]])], [])

    def test_an_entry_with_what_is_no_world(self):
        for entry in [[-1], [-1, 0], [-2, 1], [2], [0, 2], [0, 1, 2], [3], [200], [0, 10 ** 59], [-10 ** 59, 0]]:
            self.refused_among(("a", 1, [entry, [0]]))
            self.refused_among(("a", 1, [[0], entry]))
        self.refused(1, [("a", 1, [[1]])], [])
        self.refused(200, [("a", 1, [[0]] * 199 + [[199, 200]])], [])
        self.refused(200, [("a", 1, [[-1, 199]] + [[0]] * 199)], [])


if __name__ == "__main__":
    unittest.main()
