"""Points 20 to 22: plans, their depth and price, and their lines; 2 and 3 as far as they speak of these."""

import itertools
import unittest

from grope.charts import Chart
from grope.errors import NoName, NoPlan
from grope.plans import Do, Look, Plan, Stop, read_plan
from helper import CHART, DEEDS, LOOKS, TABLES, all_trees, chart_told, look_run, plan_of, prices_in, renamed, rows_below
from helper import run_of, tree_of, tree_price, trees_on

# Names and answers: of one and of thirty signs, with blanks, and such as look like lines themselves.
NAMES = [
    "a", "~", "-", " ", "  ", "x" * 30, " " * 30, "x" * 29 + " ", " " + "x" * 29, "a b", " a", "a ", " a ", "  a  ",
    "a  b", "stop", " stop", "  stop", "stop ", "do", "do ", "do a", " do a", "look", "look a", "  look a", "case",
    "case a", " case a", "   case a", "'", "\"", "\\", "{}", "{a}", "[]", "#", ";", "; ", "None", "0",
]

# A tree with all that there is: looks within looks, ways of unlike depth, ways that stand in no wise order.
WIDE_TREE = (
    "do", "walk", ("look", "peek", [
        ("red", ("do", "fall", ("stop",))),
        ("green", ("stop",)),
        ("blue", ("look", "count", [
            ("9", ("do", "rest", ("do", "rest", ("do", "rest", ("stop",))))),
            ("10", ("look", "hear", [("hum", ("stop",))])),
        ])),
    ]),
)
TREE_LINES = [
    "do walk",
    "look peek",
    " case red",
    "  do fall",
    "  stop",
    " case green",
    "  stop",
    " case blue",
    "  look count",
    "   case 9",
    "    do rest",
    "    do rest",
    "    do rest",
    "    stop",
    "   case 10",
    "    look hear",
    "     case hum",
    "      stop",
]


def lines_of(tree, ahead=""):
    """Point 22, straight."""
    if tree[0] == "stop":
        return [ahead + "stop"]
    if tree[0] == "do":
        return [ahead + "do " + tree[1]] + lines_of(tree[2], ahead)
    found = [ahead + "look " + tree[1]]
    for answer, way in tree[2]:
        found += [ahead + " case " + answer] + lines_of(way, ahead + "  ")
    return found


def trees_of_few_lines(most):
    """Every tree with the deed a, the look l and the answers x and y that has at most so many lines."""
    if most < 1:
        return []
    found = [("stop",)] + [("do", "a", tree) for tree in trees_of_few_lines(most - 1)]
    for answers in [["x"], ["y"], ["x", "y"], ["y", "x"]]:
        for ways in itertools.product(trees_of_few_lines(most - 2), repeat=len(answers)):
            tree = ("look", "l", list(zip(answers, ways)))
            if len(lines_of(tree)) <= most:
                found.append(tree)
    return found


class PlanTest(unittest.TestCase):
    def refused(self, refusal, ask, *given):
        with self.subTest(given=given):
            with self.assertRaises(refusal) as taken:
                ask(*given)
            self.assertIs(taken.exception.__class__, refusal)


class Told(PlanTest):
    def test_each_is_a_plan(self):
        for plan, kind in [(Stop(), Stop), (Do("a", Stop()), Do), (Look("l", [("x", Stop())]), Look)]:
            self.assertIs(plan.__class__, kind)
            self.assertIsInstance(plan, Plan)
            self.assertEqual(kind.__bases__, (Plan,))
            self.assertEqual([isinstance(plan, other) for other in (Stop, Do, Look)].count(True), 1)

    def test_do(self):
        rest = Do("b", Stop())
        plan = Do("a", rest)
        self.assertEqual(plan.deed, "a")
        self.assertIsInstance(plan.rest, Do)
        self.assertEqual(plan.rest.deed, "b")
        self.assertIsInstance(plan.rest.rest, Stop)

    def test_look(self):
        plan = Look("l", [("y", Stop()), ("x", Do("a", Stop())), ("z", Look("m", [("x", Stop())]))])
        self.assertEqual(plan.look, "l")
        ways = plan.ways()
        self.assertIs(ways.__class__, list)
        self.assertEqual([way.__class__ for way in ways], [tuple] * 3)
        self.assertEqual([len(way) for way in ways], [2, 2, 2])
        self.assertEqual([answer for answer, way in ways], ["y", "x", "z"])
        self.assertEqual([way.__class__ for answer, way in ways], [Stop, Do, Look])
        self.assertEqual(ways[1][1].deed, "a")
        self.assertEqual(ways[2][1].look, "m")

    def test_by_their_names(self):
        plan = Look(ways=[("x", Do(rest=Stop(), deed="a"))], look="l")
        self.assertEqual(tree_of(plan), ("look", "l", [("x", ("do", "a", ("stop",)))]))

    def test_names_and_answers(self):
        for name in NAMES:
            self.assertEqual(Do(name, Stop()).deed, name)
            self.assertEqual(Look(name, [("x", Stop())]).look, name)
            self.assertEqual(Look("l", [(name, Stop())]).ways()[0][0], name)
        plan = Look("l", [(name, Do(name, Stop())) for name in NAMES])
        self.assertEqual([answer for answer, way in plan.ways()], NAMES)
        self.assertEqual([way.deed for answer, way in plan.ways()], NAMES)

    def test_answers_that_are_beginnings_of_one_another(self):
        answers = ["abc", "a", "ab", "ab ", "a ", " a", "  a", " ", "A", "x" * 29, "x" * 30]
        plan = Look("l", [(answer, Stop()) for answer in answers])
        self.assertEqual([answer for answer, way in plan.ways()], answers)

    def test_each_small_tree(self):
        for tree in all_trees(["a", "b"], [("l", ["x", "y"])], 2) + [WIDE_TREE]:
            self.assertEqual(tree_of(plan_of(tree)), tree)

    def test_one_plan_may_stand_in_several_places(self):
        part = Do("a", Stop())
        plan = Look("l", [("x", part), ("y", Do("b", part)), ("z", part)])
        short = ("do", "a", ("stop",))
        self.assertEqual(tree_of(plan), ("look", "l", [("x", short), ("y", ("do", "b", short)), ("z", short)]))
        self.assertEqual(tree_of(part), short)
        self.assertEqual(plan.depth(), 3)

    def test_ways_are_copied(self):
        for pair in [tuple, list]:
            ways = [pair(("x", Stop())), pair(("y", Do("a", Stop())))]
            plan = Look("l", ways)
            tree = ("look", "l", [("x", ("stop",)), ("y", ("do", "a", ("stop",)))])
            self.assertEqual(tree_of(plan), tree)
            if pair == list:
                ways[0][0] = "z"
                ways[1][1] = Stop()
            ways[0] = pair(("w", Stop()))
            ways.append(pair(("x", Stop())))
            self.assertEqual(tree_of(plan), tree)
            ways.clear()
            self.assertEqual(tree_of(plan), tree)
            self.assertEqual({way.__class__ for way in plan.ways()}, {tuple})

    def test_what_is_handed_in_stays(self):
        inner = Stop()
        ways = [("y", inner), ("x", inner)]
        plan = Look("l", ways)
        for ask in [plan.ways, plan.depth, plan.lines]:
            ask()
        self.assertEqual(ways, [("y", inner), ("x", inner)])

    def test_told_ways_are_the_askers_own(self):
        plan = Look("l", [("x", Stop()), ("y", Do("a", Stop()))])
        first = plan.ways()
        second = plan.ways()
        first[0] = ("z", Stop())
        first.append(("w", Stop()))
        self.assertEqual([answer for answer, way in second], ["x", "y"])
        self.assertEqual([answer for answer, way in plan.ways()], ["x", "y"])
        plan.ways().clear()
        self.assertEqual(plan.lines(), ["look l", " case x", "  stop", " case y", "  do a", "  stop"])
        self.assertEqual(plan.depth(), 2)

    def test_plans_stay_apart(self):
        one = Look("l", [("x", Stop())])
        other = Look("m", [("y", Stop()), ("x", Stop())])
        self.assertEqual([answer for answer, way in one.ways()], ["x"])
        self.assertEqual([answer for answer, way in other.ways()], ["y", "x"])

    def test_no_ways(self):
        self.refused(NoPlan, Look, "l", [])

    def test_an_answer_twice(self):
        for answers in [
            ["x", "x"], ["x", "x", "y", "z"], ["x", "y", "x", "z"], ["x", "y", "z", "x"], ["y", "x", "x", "z"],
            ["y", "x", "z", "x"], ["y", "z", "x", "x"], ["x", "x", "x"], [" ", " "], ["x" * 30, "y", "x" * 30],
        ]:
            self.refused(NoPlan, Look, "l", [(answer, Stop()) for answer in answers])
            self.refused(NoPlan, Look, "l", [(answer, Do(f"{k}", Stop())) for k, answer in enumerate(answers)])

    def test_a_refusal_changes_nothing(self):
        ways = [("x", Stop()), ("x", Do("a", Stop()))]
        kept = list(ways)
        self.refused(NoPlan, Look, "l", ways)
        self.assertEqual(ways, kept)


class DepthAndPrice(PlanTest):
    def check(self, tree, depth, price, chart=CHART):
        with self.subTest(tree=tree):
            plan = plan_of(tree)
            for turn in range(2):
                self.assertEqual((plan.depth(), plan.price_by(chart)), (depth, price))
                self.assertIs(plan.depth().__class__, int)
                self.assertIs(plan.price_by(chart).__class__, int)

    def test_stop(self):
        self.check(("stop",), 0, 0)
        self.check(("stop",), 0, 0, Chart(1, [], []))

    def test_deeds_one_behind_another(self):
        self.check(run_of(["rest"]), 1, 1)
        self.check(run_of(["fall"]), 1, 10)
        self.check(run_of(["walk", "fall"]), 2, 13)
        self.check(run_of(["rest", "walk", "walk", "dive", "rest"]), 5, 12)

    def test_looks(self):
        self.check(("look", "peek", [("red", ("stop",))]), 1, 2)
        self.check(("look", "peek", [("red", ("stop",)), ("blue", ("stop",))]), 1, 2)
        self.check(("look", "count", [("a", ("look", "peek", [("b", ("stop",))]))]), 2, 7)

    def test_the_deepest_way_is_not_the_dearest(self):
        deep = run_of(["rest", "rest", "rest"])
        dear = run_of(["fall"])
        for ways in itertools.permutations([("red", deep), ("blue", dear), ("green", ("stop",))]):
            self.check(("look", "peek", list(ways)), 4, 12)
            self.check(("do", "walk", ("look", "peek", list(ways))), 5, 15)
        self.check(WIDE_TREE, 6, 15)

    def test_below_unlike_looks(self):
        one = ("look", "ask", [("a", run_of(["walk", "walk"])), ("b", ("stop",))])
        other = ("look", "hear", [("a", run_of(["rest"] * 4)), ("b", run_of(["dive"] * 2))])
        self.check(one, 3, 13)
        self.check(other, 5, 9)
        self.check(("look", "peek", [("x", one), ("y", other)]), 6, 15)
        self.check(("look", "peek", [("y", other), ("x", one)]), 6, 15)

    def test_nothing_is_asked_of_worlds(self):
        # Deeds and looks that can be done nowhere, answers that no world tells.
        self.check(run_of(["dive", "dive"]), 2, 8)
        self.check(("look", "ask", [("none", run_of(["dive"]))]), 2, 11)
        self.check(("look", "peek", [("green", run_of(["walk"] * 9)), ("red", ("stop",))]), 10, 29)

    def test_prices_at_the_edges(self):
        chart = Chart(1, [("a", 1, [[0]]), ("b", 10 ** 9, [[0]])], [("l", 1, ["x"]), ("m", 10 ** 9, ["x"])])
        self.check(run_of(["a"]), 1, 1, chart)
        self.check(run_of(["b"]), 1, 10 ** 9, chart)
        self.check(run_of(["a", "b"]), 2, 10 ** 9 + 1, chart)
        self.check(("look", "m", [("x", run_of(["a"] * 39)), ("y", run_of(["b"]))]), 40, 2 * 10 ** 9, chart)
        self.check(("look", "l", [("x", run_of(["a"] * 39)), ("y", run_of(["b"]))]), 40, 10 ** 9 + 1, chart)
        self.check(run_of(["b"] * 40), 40, 40 * 10 ** 9, chart)
        self.check(look_run(["m"] * 40, "x"), 40, 40 * 10 ** 9, chart)

    def test_forty_steps(self):
        self.check(run_of(["rest"] * 40), 40, 40)
        self.check(run_of(["walk", "rest"] * 20), 40, 80)
        self.check(look_run(["hear"] * 40, "a"), 40, 40)
        self.check(look_run(["hear", "count"] * 20, "a"), 40, 120)
        self.check(look_run(["peek"] * 20, "a", run_of(["fall"] * 20)), 40, 240)

    def test_three_hundred_rows(self):
        ways = [(f"{k}", run_of(["rest"])) for k in range(149)] + [("149", ("stop",))]
        self.assertEqual(len(rows_below(("look", "peek", ways))), 300)
        self.check(("look", "peek", ways), 2, 3)
        ways[77] = ("77", run_of(["fall"]))
        self.check(("look", "peek", ways), 2, 12)

    def test_each_small_tree(self):
        for tables in TABLES:
            chart = Chart(*tables)
            ones = {name: 1 for name in prices_in(tables)}
            for tree in trees_on(tables, 2):
                plan = plan_of(tree)
                self.assertEqual(plan.depth(), tree_price(tree, ones), tree)
                self.assertEqual(plan.price_by(chart), tree_price(tree, prices_in(tables)), tree)

    def test_by_unlike_charts(self):
        plan = plan_of(run_of(["walk", "walk", "rest"]))
        cheap = Chart(2, [("rest", 100, [[], []]), ("walk", 1, [[], []])], [])
        self.assertEqual([plan.price_by(chart) for chart in (CHART, cheap, CHART)], [7, 102, 7])
        self.assertEqual(plan.depth(), 3)

    def test_by_its_name(self):
        self.assertEqual(Do("walk", Stop()).price_by(chart=CHART), 3)

    def test_no_such_name(self):
        for name in ["peek", "swim", "", " ", "walk ", " walk", "Walk", "red", "x" * 30]:
            self.refused(NoName, Do(name, Stop()).price_by, CHART)
        for name in ["walk", "swim", "", " ", "peek ", " peek", "Peek", "red", "x" * 30]:
            self.refused(NoName, Look(name, [("red", Stop())]).price_by, CHART)

    def test_no_such_name_wherever_in_the_plan(self):
        rows = rows_below(WIDE_TREE)
        for number, row in enumerate(rows):
            if row[0] != "stop":
                other = "peek" if row[0] == "do" else "walk"
                for name in [other, "swim", row[1] + " "]:
                    plan = plan_of(renamed(WIDE_TREE, number, name))
                    self.refused(NoName, plan.price_by, CHART)
                    # The depth asks for no names.
                    self.assertEqual(plan.depth(), 6)
                self.assertEqual(renamed(WIDE_TREE, number, row[1]), WIDE_TREE)

    def test_no_such_name_at_the_end_of_forty_steps(self):
        self.refused(NoName, plan_of(run_of(["rest"] * 39 + ["hear"])).price_by, CHART)
        self.refused(NoName, plan_of(look_run(["hear"] * 39 + ["rest"], "a")).price_by, CHART)

    def test_a_refusal_changes_nothing(self):
        plan = plan_of(WIDE_TREE)
        self.refused(NoName, plan.price_by, Chart(1, [], []))
        self.assertEqual((plan.depth(), plan.price_by(CHART)), (6, 15))
        self.assertEqual(tree_of(plan), WIDE_TREE)
        self.assertEqual(chart_told(CHART), (5, DEEDS, LOOKS))


class Lines(PlanTest):
    def check(self, tree, lines):
        with self.subTest(lines=lines):
            self.assertEqual(lines_of(tree), lines)
            plan = plan_of(tree)
            self.assertEqual(plan.lines(), lines)
            self.assertIs(plan.lines().__class__, list)
            read = read_plan(lines)
            self.assertIsInstance(read, Plan)
            self.assertEqual(tree_of(read), tree)
            self.assertEqual(read.lines(), lines)

    def test_by_hand(self):
        stop = ("stop",)
        self.check(stop, ["stop"])
        self.check(run_of(["a"]), ["do a", "stop"])
        self.check(run_of(["a", "b", "a"]), ["do a", "do b", "do a", "stop"])
        self.check(("look", "l", [("x", stop)]), ["look l", " case x", "  stop"])
        self.check(("look", "l", [("y", stop), ("x", stop)]), ["look l", " case y", "  stop", " case x", "  stop"])
        self.check(("do", "a", ("look", "l", [("x", run_of(["b"])), ("y", stop)])), [
            "do a", "look l", " case x", "  do b", "  stop", " case y", "  stop",
        ])
        self.check(("look", "l", [("x", ("look", "m", [("x", stop)])), ("y", stop)]), [
            "look l", " case x", "  look m", "   case x", "    stop", " case y", "  stop",
        ])
        self.check(("look", "l", [("x", ("do", "a", ("look", "m", [("x", stop), ("y", stop)])))]), [
            "look l", " case x", "  do a", "  look m", "   case x", "    stop", "   case y", "    stop",
        ])
        self.check(WIDE_TREE, TREE_LINES)

    def test_each_small_tree(self):
        trees = all_trees(["a", "b"], [("l", ["x", "y"])], 2) + all_trees(["a"], [("l", ["x", "y"])], 3)
        for tree in trees:
            self.check(tree, lines_of(tree))

    def test_names_and_answers(self):
        stop = ("stop",)
        for name in NAMES:
            self.check(run_of([name]), ["do " + name, "stop"])
            self.check(("look", name, [("x", stop)]), ["look " + name, " case x", "  stop"])
            self.check(("look", "l", [(name, stop)]), ["look l", " case " + name, "  stop"])
            self.check(("look", "l", [("x", stop), (name, run_of([name]))]), [
                "look l", " case x", "  stop", " case " + name, "  do " + name, "  stop",
            ])
        tree = ("look", "l", [(name, ("look", name, [(name, run_of([name]))])) for name in NAMES])
        self.check(tree, lines_of(tree))

    def test_forty_steps(self):
        for tree in [
            run_of(["a"] * 40), look_run(["l"] * 40, "x"), look_run(["l"] * 40, "x" * 30),
            look_run(["l"] * 20, "x", run_of(["a"] * 20)), run_of(["a"] * 20, look_run(["l"] * 20, "x")),
        ]:
            self.check(tree, lines_of(tree))
        lines = plan_of(look_run(["l"] * 40, "x")).lines()
        self.assertEqual(lines[:160:4], [" " * (2 * k) + "look l" for k in range(40)])
        self.assertEqual(lines[3:160:4], [" " * (2 * k + 1) + "case x" for k in range(40)])
        self.assertEqual(lines[160], " " * 80 + "stop")

    def test_three_hundred_rows(self):
        stop = ("stop",)
        for tree in [
            ("look", "l", [(f"{k}", stop) for k in range(299)]),
            ("look", "l", [(f"{k}", run_of(["a"])) for k in range(149)] + [("149", stop)]),
            ("look", "l", [(f"{k}", ("look", "m", [(f"{j}", run_of(["a"])) for j in range(11)])) for k in range(13)]),
        ]:
            self.assertEqual(len(rows_below(tree)), 300)
            self.check(tree, lines_of(tree))

    def test_deeper_and_longer_than_is_handed_in(self):
        # Such lines may be refused or not; but nothing else comes of them.
        wide = ("look", "l", [(f"{k}", ("stop",)) for k in range(999)])
        for tree in [run_of(["a"] * 200), look_run(["l"] * 60, "x"), wide]:
            lines = lines_of(tree)
            try:
                self.assertEqual(tree_of(read_plan(lines)), tree)
            except NoPlan:
                pass

    def test_by_its_name(self):
        self.assertIsInstance(read_plan(lines=["stop"]), Stop)

    def test_the_lines_that_are_handed_in(self):
        lines = list(TREE_LINES)
        plan = read_plan(lines)
        self.assertEqual(lines, TREE_LINES)
        lines[0] = "do fall"
        lines.append("stop")
        self.assertEqual(tree_of(plan), WIDE_TREE)
        lines.clear()
        self.assertEqual(plan.lines(), TREE_LINES)

    def test_told_lines_are_the_askers_own(self):
        for plan in [plan_of(WIDE_TREE), read_plan(TREE_LINES)]:
            first = plan.lines()
            second = plan.lines()
            first[0] = "stop"
            first.append("more")
            self.assertEqual(second, TREE_LINES)
            self.assertEqual(plan.lines(), TREE_LINES)
            self.assertEqual(tree_of(plan), WIDE_TREE)
        Stop().lines().append("more")
        self.assertEqual(Stop().lines(), ["stop"])

    def test_read_twice(self):
        one = read_plan(TREE_LINES)
        other = read_plan(TREE_LINES)
        self.assertEqual(tree_of(one), tree_of(other))
        self.assertEqual((one.depth(), one.price_by(CHART)), (6, 15))


class NoLines(PlanTest):
    def none(self, *lines):
        kept = list(lines)
        self.refused(NoPlan, read_plan, kept)
        self.assertEqual(kept, list(lines))

    def test_no_line(self):
        self.none()

    def test_no_sign(self):
        self.none("")
        self.none(" ")
        self.none("", "stop")
        self.none("stop", "")
        self.none("stop", " ")
        self.none("do a", "", "stop")

    def test_a_blank_more_or_less_ahead(self):
        for number, line in enumerate(TREE_LINES):
            for wrong in [" " + line, "  " + line, line[1:] if line[0] == " " else " " + line, line.lstrip(" ")]:
                if wrong != line:
                    self.none(*TREE_LINES[:number], wrong, *TREE_LINES[number + 1:])
        self.none(" stop")
        self.none("  stop")
        self.none(" do a", " stop")
        self.none("do a", " stop")
        self.none(" do a", "stop")
        self.none(" look l", "  case x", "   stop")
        self.none("look l", "case x", " stop")
        self.none("look l", "case x", "  stop")
        self.none("look l", "  case x", "  stop")
        self.none("look l", "  case x", "   stop")
        self.none("look l", " case x", " stop")
        self.none("look l", " case x", "   stop")
        self.none("look l", " case x", "  stop", "  case y", "  stop")
        self.none("look l", " case x", "  stop", "  case y", "   stop")
        self.none("look l", " case x", "  do a", " stop")
        self.none("look l", " case x", "  do a", "   stop")

    def test_no_name(self):
        self.none("do", "stop")
        self.none("do ", "stop")
        self.none("do")
        self.none("look", " case x", "  stop")
        self.none("look ", " case x", "  stop")
        self.none("look l", " case", "  stop")
        self.none("look l", " case ", "  stop")

    def test_names_that_are_too_long(self):
        for name in ["x" * 31, " " * 31, "x" * 30 + " ", " " + "x" * 30, "x" * 290]:
            self.none("do " + name, "stop")
            self.none("look " + name, " case x", "  stop")
            self.none("look l", " case " + name, "  stop")

    def test_a_do_without_a_rest(self):
        self.none("do a")
        self.none("do a", "do a")
        self.none("look l", " case x", "  do a")
        self.none("look l", " case x", "  do a", " case y", "  stop")
        self.none("look l", " case x", "  stop", " case y", "  do a")
        self.none("look l", " case x", "  do a", "stop")

    def test_a_look_without_a_case(self):
        self.none("look l")
        self.none("look l", "stop")
        self.none("look l", " stop")
        self.none("look l", "  stop")
        self.none("do a", "look l")
        self.none("look l", "do a", "stop")
        self.none("look l", "look m", " case x", "  stop")
        self.none("look l", " case x", "  look m", " case y", "  stop")
        self.none("look l", " case x", "  look m")

    def test_a_case_without_a_plan(self):
        self.none("look l", " case x")
        self.none("look l", " case x", " case y", "  stop")
        self.none("look l", " case x", "  stop", " case y")
        self.none("look l", " case x", "stop")
        self.none("look l", " case x", "  look m", "   case x", " case y", "  stop")

    def test_an_answer_twice(self):
        for answers in [["x", "x"], ["x", "x", "y"], ["x", "y", "x"], ["y", "x", "x"], [" ", " "], ["x ", "y", "x "]]:
            lines = ["look l"]
            for answer in answers:
                lines += [" case " + answer, "  stop"]
            self.none(*lines)
        self.none("look l", " case x", "  look m", "   case y", "    stop", "   case y", "    stop")
        self.none("look l", " case x", "  do a", "  stop", " case y", "  stop", " case x", "  stop")
        # In a look within a look it is another answer.
        inner = ["  look m", "   case x", "    stop"]
        self.assertEqual(read_plan(["look l", " case x"] + inner).lines(), ["look l", " case x"] + inner)

    def test_a_line_more_behind_the_end(self):
        ends = [["stop"], ["do a", "stop"], ["look l", " case x", "  stop"], TREE_LINES]
        for lines in ends:
            for more in ends + [["do a"], ["look l"], ["  stop"], [" stop"], ["case x"], ["more"], [""], [" case x"]]:
                self.none(*lines, *more)
        self.none("look l", " case x", "  stop", "  stop")
        self.none("look l", " case x", "  stop", "  stop", " case y", "  stop")
        self.none("look l", " case x", "  stop", "  do a", "  stop")

    def test_something_behind_a_stop(self):
        for line in ["stop ", "stop  ", "stop a", "stop stop", "stopp", "stop.", "stop;"]:
            self.none(line)
            self.none("do a", line)
            self.none("look l", " case x", "  " + line)

    def test_another_word(self):
        for word in ["Stop", "STOP", "sto", "halt", "-", "#", "~", "stop-"]:
            self.none(word)
        for word in ["Do", "DO", "d", "doo", "did", "stop", "case", "look", "does", "-"]:
            self.none(word + " a", "stop")
        for word in ["Look", "looks", "loo", "do", "case", "stop", "saw"]:
            self.none(word + " l", " case x", "  stop")
        for word in ["Case", "cases", "cas", "do", "look", "stop", "way"]:
            self.none("look l", " " + word + " x", "  stop")
        self.none("doa", "stop")
        self.none("do-a", "stop")
        for sign in ["x", "-", ".", "0", "~", "stop", "do"]:
            self.none(sign + "stop")
            self.none(sign + "do a", "stop")
            self.none("look l", " " + sign + "case x", "  stop")
            self.none("look l", sign + "case x", "  stop")
            self.none("look l", " case x", "  " + sign + "stop")
            self.none("look l", " case x", " " + sign + "stop")
        self.none("lookl", " case x", "  stop")
        self.none("look l", " casex", "  stop")

    def test_a_case_where_none_is_due(self):
        self.none("case x")
        self.none(" case x")
        self.none("case x", " stop")
        self.none("case x", "stop")
        self.none(" case x", "  stop")
        self.none("do a", " case x", "  stop")
        self.none("do a", "stop", " case x", "  stop")
        self.none("stop", " case x", "  stop")
        self.none("look l", " case x", "  stop", "   case y", "    stop")
        self.none("look l", " case x", "  do a", "   case y", "    stop")
        self.none("look l", " case x", "  case y", "  stop")
        self.none("look l", " case x", "  case y", "   stop")

    def test_a_line_left_out_told_twice_or_moved(self):
        for number, line in enumerate(TREE_LINES):
            if not line.startswith("    do") and line != "do walk" and line != "  do fall":
                self.none(*TREE_LINES[:number], *TREE_LINES[number + 1:])
                self.none(*TREE_LINES[:number], line, *TREE_LINES[number:])
        for one, other in itertools.combinations(range(len(TREE_LINES)), 2):
            lines = list(TREE_LINES)
            lines[one], lines[other] = lines[other], lines[one]
            # Where only names or answers changed places it is a plan still.
            heads = [line.rstrip("0123456789abcdefghijklmnopqrstuvwxyz") for line in lines]
            if heads != [line.rstrip("0123456789abcdefghijklmnopqrstuvwxyz") for line in TREE_LINES]:
                self.none(*lines)

    def test_every_few_lines(self):
        """All lists of a few of these lines: just those that some plan has are read."""
        wide = [
            "stop", "do a", "look l", "case x", " stop", " case x", " case y", "  stop", "  do a", "  look l",
            "   case x", "    stop",
        ]
        narrow = ["stop", "look l", " case x", " case y", "  stop", "  do a"]
        plans = {}
        for tree in trees_of_few_lines(6):
            plans[tuple(lines_of(tree))] = tree
        read = 0
        for some, longest in [(wide, 4), (narrow, 6)]:
            for many in range(longest + 1):
                for lines in itertools.product(some, repeat=many):
                    try:
                        found = tree_of(read_plan(list(lines)))
                        read += 1
                    except NoPlan:
                        found = None
                    self.assertEqual(found, plans.get(lines), lines)
        self.assertGreater(read, 20)

    def test_a_refusal_leaves_the_next_one_alone(self):
        self.none("do a")
        self.assertEqual(tree_of(read_plan(["do a", "stop"])), run_of(["a"]))
        self.none("stop", "stop")
        self.assertEqual(tree_of(read_plan(["stop"])), ("stop",))


if __name__ == "__main__":
    unittest.main()
