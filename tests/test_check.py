"""Point 23: plans walked from a set of worlds; 2 and 3 as far as they speak of this."""

import unittest

from grope.charts import Chart
from grope.check import does, walked
from grope.errands import Errand
from grope.errors import Astray, NoName
from grope.plans import Do, Look, Stop
from grope.sets import set_of, worlds_of
from helper import CHART, DEEDS, LOOKS, TABLES, chart_told, look_run, plan_of, renamed, rows_below, run_of, tree_of
from helper import tree_walked, trees_on

STOP = ("stop",)
ALL = [0, 1, 2, 3, 4]


def errand_on(goal, keep=ALL):
    return Errand(CHART, set_of(goal), set_of(keep))


class CheckTest(unittest.TestCase):
    def walks(self, errand, worlds, tree, sets):
        with self.subTest(worlds=worlds, tree=tree):
            plan = plan_of(tree)
            for turn in range(2):
                found = walked(errand, set_of(worlds), plan)
                self.assertIs(found.__class__, list)
                self.assertEqual({some.__class__ for some in found}, {int})
                self.assertEqual([worlds_of(some) for some in found], sets)
                self.assertIs(does(errand, set_of(worlds), plan), True)

    def strays(self, errand, worlds, tree, row, world, why):
        with self.subTest(worlds=worlds, tree=tree):
            plan = plan_of(tree)
            for turn in range(2):
                with self.assertRaises(Astray) as taken:
                    walked(errand, set_of(worlds), plan)
                error = taken.exception
                self.assertIs(error.__class__, Astray)
                self.assertEqual((error.row, error.world, error.why), (row, world, why))
                self.assertIs(does(errand, set_of(worlds), plan), False)

    def refused(self, errand, worlds, tree):
        with self.subTest(worlds=worlds, tree=tree):
            for ask in [walked, does]:
                with self.assertRaises(NoName) as taken:
                    ask(errand, set_of(worlds), plan_of(tree))
                self.assertIs(taken.exception.__class__, NoName)


class Walked(CheckTest):
    def test_stop(self):
        self.walks(errand_on([2]), [2], STOP, [[2]])
        self.walks(errand_on([0, 2, 3]), [0, 3], STOP, [[0, 3]])
        self.walks(errand_on(ALL), ALL, STOP, [ALL])

    def test_deeds(self):
        self.walks(errand_on([1]), [0], run_of(["walk"]), [[0], [1]])
        self.walks(errand_on([4]), [2], run_of(["walk", "walk"]), [[2], [3], [4]])
        self.walks(errand_on([2, 3]), [0, 1], run_of(["walk", "rest", "walk"]), [[0, 1], [1, 2], [1, 2], [2, 3]])
        self.walks(errand_on([0, 1]), [0], run_of(["fall"]), [[0], [0, 1]])
        self.walks(errand_on([1, 2, 3]), [0, 2], run_of(["rest", "walk"]), [[0, 2], [0, 2], [1, 3]])
        self.walks(errand_on(ALL), [4], run_of(["fall", "rest"]), [[4], ALL, ALL])

    def test_looks(self):
        both = ("look", "peek", [("red", STOP), ("blue", STOP)])
        self.walks(errand_on(ALL), [0, 1, 2, 4], both, [[0, 1, 2, 4], [0, 2], [1, 4]])
        self.walks(errand_on(ALL), [0, 1], both, [[0, 1], [0], [1]])
        self.walks(errand_on(ALL), [4], both, [[4], [], [4]])
        self.walks(errand_on(ALL), [0, 2], ("look", "peek", [("red", STOP)]), [[0, 2], [0, 2]])

    def test_ways_are_walked_in_their_order(self):
        for ways in [["red", "blue"], ["blue", "red"], ["green", "red", "blue"], ["blue", "green", "red", "a"]]:
            tree = ("look", "peek", [(answer, STOP) for answer in ways])
            worlds = {"red": [0, 2], "blue": [1, 4]}
            self.walks(errand_on(ALL), [0, 1, 2, 4], tree, [[0, 1, 2, 4]] + [worlds.get(way, []) for way in ways])

    def test_deeds_and_looks(self):
        tree = ("do", "walk", ("look", "peek", [
            ("red", ("do", "walk", STOP)),
            ("blue", ("look", "count", [("10", run_of(["rest"])), ("2", STOP)])),
            ("green", ("do", "dive", ("look", "ask", [("what", STOP)]))),
        ]))
        self.walks(errand_on([1, 3]), [0, 1], tree, [
            [0, 1], [1, 2], [2], [3], [1], [1], [1], [], [], [], [],
        ])

    def test_what_a_look_parts_comes_together_nowhere(self):
        tree = ("look", "peek", [("red", run_of(["walk"])), ("blue", STOP)])
        self.walks(errand_on([1, 3, 4]), [0, 1, 2, 4], tree, [[0, 1, 2, 4], [0, 2], [1, 3], [1, 4]])

    def test_answers_that_are_beginnings_of_one_another(self):
        answers = ["a", "ab", "a ", " a", "abc", " "]
        chart = Chart(6, [], [("l", 1, answers)])
        for ways in [answers, list(reversed(answers)), ["b", "abcd", "A"] + answers]:
            plan = Look("l", [(answer, Stop()) for answer in ways])
            sets = [set_of([answers.index(way)]) if way in answers else 0 for way in ways]
            self.assertEqual(walked(Errand(chart, 63), 63, plan), [63] + sets)

    def test_the_empty_set(self):
        for errand in [errand_on([]), errand_on([], []), errand_on([3], [1])]:
            self.walks(errand, [], STOP, [[]])
            self.walks(errand, [], run_of(["dive", "walk"]), [[], [], []])
            self.walks(errand, [], ("look", "ask", [("a", STOP), ("b", run_of(["walk"]))]), [[], [], [], []])

    def test_by_their_names(self):
        errand = errand_on([1])
        plan = Do("walk", Stop())
        self.assertEqual(walked(plan=plan, some=1, errand=errand), [1, 2])
        self.assertIs(does(plan=plan, some=1, errand=errand), True)

    def test_no_keep_is_all_worlds(self):
        self.assertEqual(walked(Errand(CHART, 31), 31, Stop()), [31])

    def test_forty_steps(self):
        self.walks(errand_on(ALL), ALL, run_of(["rest"] * 40), [ALL] * 41)
        tree = look_run(["hear"] * 40, "hum")
        sets = walked(errand_on([3]), 8, plan_of(tree))
        rows = rows_below(tree)
        self.assertEqual(len(sets), len(rows))
        # In each look the first way comes ahead, and the last ones stand behind all.
        self.assertEqual(sets, [8, 0] * 40 + [8] + [0] * 40)
        self.assertIs(does(errand_on([2]), 8, plan_of(tree)), False)

    def test_three_hundred_rows(self):
        chart = Chart(200, [("on", 1, [[(k + 1) % 200] for k in range(200)])], [("l", 1, [f"{k}" for k in range(200)])])
        tree = ("look", "l", [(f"{k}", run_of(["on"])) for k in range(99)] + [(f"{k}", STOP) for k in range(99, 200)])
        self.assertEqual(len(rows_below(tree)), 300)
        sets = [2 ** 200 - 1]
        for world in range(200):
            sets += [2 ** world, 2 ** (world + 1)] if world < 99 else [2 ** world]
        self.assertEqual(walked(Errand(chart, 2 ** 200 - 1), 2 ** 200 - 1, plan_of(tree)), sets)
        with self.assertRaises(Astray) as taken:
            walked(Errand(chart, 2 ** 199 - 1), 2 ** 200 - 1, plan_of(tree))
        error = taken.exception
        self.assertEqual((error.row, error.world, error.why), (299, 199, "goal"))

    def test_a_told_list_is_the_askers_own(self):
        errand = errand_on([1])
        plan = Do("walk", Stop())
        first = walked(errand, 1, plan)
        second = walked(errand, 1, plan)
        first[0] = 9
        first.append(7)
        self.assertEqual(second, [1, 2])
        self.assertEqual(walked(errand, 1, plan), [1, 2])

    def test_what_is_handed_in_stays(self):
        tree = ("look", "peek", [("red", run_of(["walk"])), ("blue", STOP)])
        plan = plan_of(tree)
        errand = errand_on([1, 3], [0, 1, 2, 3])
        walked(errand, 3, plan)
        for some in [0, 1, 3, 8, 16, 31]:
            does(errand, some, plan)
        self.assertEqual(tree_of(plan), tree)
        self.assertEqual((errand.goal(), errand.keep()), (10, 15))
        self.assertEqual(chart_told(errand.chart()), (5, DEEDS, LOOKS))
        self.assertEqual(walked(errand, 3, plan), [3, 1, 2, 2])


class Wrong(CheckTest):
    def test_keep(self):
        self.strays(errand_on(ALL, [0, 1]), [2], STOP, 0, 2, "keep")
        self.strays(errand_on(ALL, [0, 1]), [0, 1, 2, 3], STOP, 0, 2, "keep")
        self.strays(errand_on(ALL, [0, 1]), [0, 1], run_of(["walk"]), 1, 2, "keep")
        self.strays(errand_on(ALL, [0, 2, 3]), [0], run_of(["walk", "walk"]), 1, 1, "keep")
        self.strays(errand_on(ALL, [1, 2]), [1], run_of(["walk", "walk"]), 2, 3, "keep")
        self.strays(errand_on(ALL, []), [4], STOP, 0, 4, "keep")
        self.strays(errand_on(ALL, [0, 4]), [0, 4], run_of(["fall"]), 1, 1, "keep")

    def test_keep_is_asked_at_a_look_and_at_a_stop_too(self):
        look = ("look", "peek", [("red", STOP), ("blue", STOP)])
        self.strays(errand_on(ALL, [1, 4]), [0, 1, 4], look, 0, 0, "keep")
        self.strays(errand_on(ALL, [0, 2]), [0], ("do", "walk", look), 1, 1, "keep")

    def test_cannot(self):
        self.strays(errand_on(ALL), [4], run_of(["walk"]), 0, 4, "cannot")
        self.strays(errand_on(ALL), ALL, run_of(["walk"]), 0, 4, "cannot")
        self.strays(errand_on(ALL), ALL, run_of(["fall"]), 0, 1, "cannot")
        self.strays(errand_on(ALL), [2, 3], run_of(["walk", "walk"]), 1, 4, "cannot")
        self.strays(errand_on(ALL), [0, 3], ("look", "peek", [("red", STOP), ("blue", STOP)]), 0, 3, "cannot")
        self.strays(errand_on(ALL), [1, 2], ("look", "ask", [("a", STOP)]), 0, 1, "cannot")
        # A deed that can be done nowhere, in a way to which some world comes, and in one to which none does.
        tree = ("look", "peek", [("red", STOP), ("blue", run_of(["dive"]))])
        self.strays(errand_on(ALL), [0, 1], tree, 2, 1, "cannot")
        self.walks(errand_on(ALL), [0], tree, [[0], [0], [], []])

    def test_answer(self):
        self.strays(errand_on(ALL), [0, 1], ("look", "peek", [("blue", STOP)]), 0, 0, "answer")
        self.strays(errand_on(ALL), [0, 1], ("look", "peek", [("red", STOP)]), 0, 1, "answer")
        self.strays(errand_on(ALL), [0, 2, 4], ("look", "peek", [("red", STOP)]), 0, 4, "answer")
        self.strays(errand_on(ALL), [1], ("look", "count", [("1", STOP), ("100", STOP), ("10 ", STOP)]), 0, 1, "answer")
        self.strays(errand_on(ALL), [0, 1], ("do", "walk", ("look", "peek", [("blue", STOP)])), 1, 2, "answer")
        self.strays(errand_on(ALL), [0], ("look", "hear", [("None", STOP), ("Hum", STOP)]), 0, 0, "answer")

    def test_goal(self):
        self.strays(errand_on([]), [0], STOP, 0, 0, "goal")
        self.strays(errand_on([0, 2]), [0, 1, 2, 3], STOP, 0, 1, "goal")
        self.strays(errand_on([3]), [1, 2], run_of(["walk"]), 1, 2, "goal")
        self.strays(errand_on([3]), [1, 2], run_of(["walk", "walk"]), 2, 4, "goal")
        self.strays(errand_on([0, 2]), [0, 1], ("look", "peek", [("red", STOP), ("blue", STOP)]), 2, 1, "goal")
        # The goal is asked of stops alone.
        self.walks(errand_on([4]), [3], run_of(["walk"]), [[3], [4]])

    def test_the_least_world_of_a_row_whatever_the_why(self):
        look = ("look", "peek", [("blue", STOP)])
        self.strays(errand_on(ALL, [0, 1, 2, 3]), [3, 4], look, 0, 3, "cannot")
        self.strays(errand_on(ALL, [0, 1, 2, 4]), [2, 3], look, 0, 2, "answer")
        self.strays(errand_on(ALL), [0, 3], look, 0, 0, "answer")
        self.strays(errand_on(ALL), [3, 4], ("look", "peek", [("red", STOP)]), 0, 3, "cannot")
        self.strays(errand_on(ALL, [1, 2, 3, 4]), [0, 2], look, 0, 0, "keep")
        self.strays(errand_on(ALL, [0, 1, 2, 3]), [1, 4], run_of(["fall"]), 0, 1, "cannot")
        self.strays(errand_on(ALL, [0, 2, 3, 4]), [1, 3], run_of(["fall"]), 0, 1, "keep")
        self.strays(errand_on([1, 2, 4], [0, 1, 2, 3]), [0, 4], STOP, 0, 0, "goal")
        self.strays(errand_on([1, 2, 4], [1, 2, 3, 4]), [0, 3], STOP, 0, 0, "keep")

    def test_the_first_why_of_a_world(self):
        # Two at once in one world: keep and each of the others. (What cannot be taken tells no answer.)
        self.strays(errand_on(ALL, [0]), [4], run_of(["walk"]), 0, 4, "keep")
        self.strays(errand_on(ALL, [0]), [3], ("look", "peek", [("blue", STOP)]), 0, 3, "keep")
        self.strays(errand_on(ALL, [0]), [2], ("look", "peek", [("blue", STOP)]), 0, 2, "keep")
        self.strays(errand_on([0], [0]), [3], STOP, 0, 3, "keep")
        self.strays(errand_on(ALL), [3], ("look", "peek", [("blue", STOP)]), 0, 3, "cannot")
        self.strays(errand_on(ALL), [3], ("look", "peek", [("None", STOP)]), 0, 3, "cannot")

    def test_the_least_row_whatever_the_world(self):
        both = ("look", "peek", [("blue", STOP), ("red", STOP)])
        self.strays(errand_on([]), [0, 1], both, 1, 1, "goal")
        self.strays(errand_on([]), [0, 1], ("look", "peek", [("red", STOP), ("blue", STOP)]), 1, 0, "goal")
        self.strays(errand_on([1]), [0, 1], both, 2, 0, "goal")
        self.strays(errand_on(ALL, [1, 2, 3, 4]), [0, 4], run_of(["walk"]), 0, 0, "keep")
        # Where rows 1 and 3 are both wrong the lesser row goes first, though its world is greater.
        tree = ("look", "peek", [("blue", run_of(["walk"])), ("red", run_of(["dive"]))])
        self.strays(errand_on(ALL), [0, 4], tree, 1, 4, "cannot")
        self.strays(errand_on([3]), [0, 1], tree, 2, 2, "goal")
        self.strays(errand_on(ALL), [0, 1], tree, 3, 0, "cannot")

    def test_rows_of_ways_within_ways(self):
        tree = ("look", "peek", [
            ("red", ("look", "count", [("4", run_of(["rest"])), ("2", run_of(["rest", "rest"]))])),
            ("blue", ("look", "hear", [("hum", STOP)])),
        ])
        # Rows: peek 0, count 1, rest 2, stop 3, rest 4, rest 5, stop 6, hear 7, stop 8.
        self.strays(errand_on([1, 2, 4]), [0, 1, 2, 4], tree, 3, 0, "goal")
        self.strays(errand_on([0, 1, 4]), [0, 1, 2, 4], tree, 6, 2, "goal")
        self.strays(errand_on([0, 2, 4]), [0, 1, 2, 4], tree, 8, 1, "goal")
        self.strays(errand_on([0, 1, 2]), [0, 1, 2, 4], tree, 8, 4, "goal")
        self.walks(errand_on([0, 1, 2, 4]), [0, 1, 2, 4], tree, [
            [0, 1, 2, 4], [0, 2], [0], [0], [2], [2], [2], [1, 4], [1, 4],
        ])

    def test_the_last_of_forty_steps(self):
        self.strays(errand_on([0]), [0, 1], run_of(["rest"] * 40), 40, 1, "goal")
        self.strays(errand_on(ALL), [0, 2], run_of(["rest"] * 39 + ["dive"]), 39, 0, "cannot")


class Names(CheckTest):
    def test_no_such_name(self):
        for name in ["peek", "swim", "", " ", "walk ", "Walk", "red"]:
            for worlds in [[], [0], ALL]:
                self.refused(errand_on(ALL), worlds, run_of([name]))
        for name in ["walk", "swim", "", " ", "peek ", "Peek", "red"]:
            for worlds in [[], [0], ALL]:
                self.refused(errand_on(ALL), worlds, ("look", name, [("red", STOP), ("blue", STOP)]))

    def test_wherever_in_the_plan(self):
        tree = ("do", "rest", ("look", "peek", [
            ("green", run_of(["rest", "walk"])),
            ("red", ("look", "hear", [("hum", run_of(["walk", "rest"])), ("what", run_of(["dive"]))])),
            ("blue", ("do", "rest", ("look", "count", [("10", STOP)]))),
        ]))
        rows = rows_below(tree)
        for number, row in enumerate(rows):
            if row[0] != "stop":
                for name in ["peek" if row[0] == "do" else "walk", "swim"]:
                    wrong = renamed(tree, number, name)
                    # From sets of which all, some and no world comes to that row.
                    for worlds in [[], [0], [1], [0, 1], ALL]:
                        self.refused(errand_on(ALL), worlds, wrong)
        self.walks(errand_on([1]), [0, 1], tree, [
            [0, 1], [0, 1], [], [], [], [0], [0], [1], [1], [], [], [1], [1], [1],
        ])

    def test_behind_a_row_that_is_wrong(self):
        for errand in [errand_on([]), errand_on(ALL, []), errand_on([], [0])]:
            self.refused(errand, [4], run_of(["walk", "swim"]))
            self.refused(errand, [4], run_of(["walk", "walk", "peek"]))
            self.refused(errand, [3], ("look", "peek", [("red", ("look", "walk", [("a", STOP)]))]))
            self.refused(errand, [0], ("look", "peek", [("red", STOP), ("blue", run_of(["swim"]))]))

    def test_where_no_world_comes(self):
        self.refused(errand_on(ALL), [0], ("look", "peek", [("red", STOP), ("blue", run_of(["swim"]))]))
        self.refused(errand_on(ALL), [0], ("look", "peek", [("red", STOP), ("green", run_of(["hear"]))]))
        self.refused(errand_on(ALL), [], run_of(["rest", "rest", "swim"]))
        self.refused(errand_on(ALL), [], ("look", "hear", [("hum", ("look", "rest", [("a", STOP)]))]))

    def test_a_refusal_changes_nothing(self):
        errand = errand_on([1])
        self.refused(errand, [0], run_of(["walk", "swim"]))
        self.walks(errand, [0], run_of(["walk"]), [[0], [1]])


class AllSmall(CheckTest):
    def check(self, tables, goal, keep, worlds, tree):
        """Holds what is told against a walk world by world."""
        errand = Errand(Chart(*tables), set_of(goal), set_of(keep))
        come, wrong = tree_walked(tables, goal, keep, worlds, tree)
        try:
            found = walked(errand, set_of(worlds), plan_of(tree))
        except Astray as error:
            found = (error.row, error.world, error.why)
        told = min(wrong) if wrong else [set_of(sorted(some)) for some in come]
        self.assertEqual(found, told, (tables, goal, keep, worlds, tree))
        self.assertIs(does(errand, set_of(worlds), plan_of(tree)), not wrong)

    def errands(self, many):
        everything = list(range(many))
        return [(everything[-1:], everything), (everything, everything[1:]), (everything[::2], everything[:-1])]

    def test_every_tree_of_two_steps_from_all_worlds_and_each(self):
        for tables in TABLES:
            everything = list(range(tables[0]))
            for goal, keep in self.errands(tables[0]):
                for tree in trees_on(tables, 2):
                    for worlds in [everything, everything[-1:], everything[:1]]:
                        self.check(tables, goal, keep, worlds, tree)

    def test_every_tree_of_one_step_from_every_set_for_every_errand(self):
        for tables in TABLES:
            subsets = [worlds_of(some) for some in range(2 ** tables[0])]
            for goal in subsets:
                for keep in subsets[:2] + subsets[-3:]:
                    for worlds in subsets:
                        for tree in trees_on(tables, 1, ["z"]):
                            self.check(tables, goal, keep, worlds, tree)

    def test_trees_of_three_steps(self):
        for tables in TABLES[2:7]:
            everything = list(range(tables[0]))
            for goal, keep in self.errands(tables[0]):
                for tree in trees_on(tables, 3)[::23]:
                    self.check(tables, goal, keep, everything, tree)


if __name__ == "__main__":
    unittest.main()
