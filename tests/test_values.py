"""Points 24 and 25: the sets that come, and the least price; 2 and 3 as far as they speak of these."""

import functools
import unittest

from grope.charts import Chart
from grope.check import does
from grope.errands import Errand
from grope.errors import TooMany
from grope.sets import set_of, worlds_of
from grope.values import coming, least
from helper import CHART, DEEDS, LOOKS, TABLES, chart_told, plan_of, prices_in, tree_price, tree_walked, trees_on

ALL = [0, 1, 2, 3, 4]


def line_chart(many, price=1, looks=()):
    """Worlds in a row; `on` leads from each to the next one, and cannot be done in the last."""
    return Chart(many, [("on", price, [[k + 1] for k in range(many - 1)] + [[]])], list(looks))


def told_apart(many, deeds=()):
    """A look that tells all worlds apart."""
    return Chart(many, list(deeds), [("name", 1, [f"{k}" for k in range(many)])])


def grown(many, deeds=()):
    """From world 0 each other one comes by `left` and `right`: behind n steps 2 to the n of them."""
    left = [[2 * k + 1] if 2 * k + 1 < many else [] for k in range(many)]
    right = [[2 * k + 2] if 2 * k + 2 < many else [] for k in range(many)]
    return Chart(many, [("left", 1, left), ("right", 2, right)] + list(deeds), [])


def only_in(many, world, outs):
    """The table of a deed that can be done in one world alone."""
    return [outs if k == world else [] for k in range(many)]


def many_tables(count):
    """Charts of five and six worlds, put together from the digits of growing numbers."""
    found = []
    number = 7
    for turn in range(count):
        digits = []
        for place in range(200):
            number = (number * 1103515245 + 12345) % 2 ** 31
            digits.append(number >> 16)
        take = iter(digits).__next__
        many = 5 + turn % 2
        deeds = []
        for name in ["a", "b", "c"]:
            table = []
            for world in range(many):
                outs = {take() % many for k in range(take() % 3 + (take() % 4 > 0))}
                table.append(sorted(outs))
            deeds.append((name, take() % 9 + 1, table))
        looks = []
        for name in ["l", "m"]:
            table = [[None, "x", "y", "x", "y", "z"][take() % 6] for world in range(many)]
            looks.append((name, take() % 5 + 1, table))
        found.append((many, deeds, looks))
    return found


def sets_come(tables, goal, keep, worlds, most):
    """Point 24, straight, with sets of Python."""
    fresh = {frozenset(worlds)} if set(worlds) <= set(keep) else set()
    levels = [fresh]
    seen = set(fresh)
    for step in range(most):
        made = set()
        for some in fresh:
            if not some <= set(goal):
                for name, price, table in tables[1]:
                    new = frozenset(out for world in some for out in table[world])
                    if all(table[world] for world in some) and new <= set(keep):
                        made.add(new)
                for name, price, table in tables[2]:
                    if all(table[world] is not None for world in some):
                        for answer in {table[world] for world in some}:
                            made.add(frozenset(world for world in some if table[world] == answer))
        fresh = made - seen
        seen |= fresh
        levels.append(fresh)
    return [sorted(set_of(sorted(some)) for some in level) for level in levels]


def price_model(tables, goal, keep):
    """The least price from each set by each bound, reckoned down from the bound with no heed to which sets come."""
    @functools.lru_cache(None)
    def price(some, most):
        if not some <= set(keep):
            return None
        if some <= set(goal):
            return 0
        if most == 0:
            return None
        found = []
        for name, cost, table in tables[1]:
            if all(table[world] for world in some):
                found.append((cost, [frozenset(out for world in some for out in table[world])]))
        for name, cost, table in tables[2]:
            if all(table[world] is not None for world in some):
                answers = {table[world] for world in some}
                found.append((cost, [frozenset(w for w in some if table[w] == answer) for answer in answers]))
        sums = []
        for cost, sets in found:
            prices = [price(made, most - 1) for made in sets]
            if None not in prices:
                sums.append(cost + max(prices))
        return min(sums, default=None)
    return price


class ValuesTest(unittest.TestCase):
    def come(self, errand, worlds, levels):
        """Holds the sets that come against the told ones, for each bound up to their number."""
        some = set_of(worlds)
        for most in range(len(levels)):
            with self.subTest(worlds=worlds, most=most):
                for turn in range(2):
                    found = coming(errand, some, most)
                    self.assertEqual([[worlds_of(one) for one in level] for level in found], levels[:most + 1])
                    self.assertIs(found.__class__, list)
                    self.assertEqual({level.__class__ for level in found}, {list})
                    self.assertLessEqual({one.__class__ for level in found for one in level}, {int})

    def prices(self, errand, worlds, told):
        """Holds the least prices by the bounds 0, 1, .. against the told ones."""
        for most, price in enumerate(told):
            with self.subTest(worlds=worlds, most=most):
                for turn in range(2):
                    found = least(errand, set_of(worlds), most)
                    self.assertEqual(found, price)
                    self.assertIs(found.__class__, price.__class__)

    def too_many(self, errand, some, most):
        with self.subTest(some=some, most=most):
            for ask in [coming, least]:
                with self.assertRaises(TooMany) as taken:
                    ask(errand, some, most)
                self.assertIs(taken.exception.__class__, TooMany)


class Coming(ValuesTest):
    def test_after_no_step(self):
        for worlds in [[0], [3, 4], ALL]:
            self.come(Errand(CHART, 0), worlds, [[worlds]])
            self.come(Errand(CHART, 31), worlds, [[worlds]])

    def test_after_each_step(self):
        self.come(Errand(line_chart(9), 2 ** 8), [0], [[[k]] for k in range(9)])
        self.come(Errand(line_chart(20), 0), [0, 2, 9], [[[k, k + 2, k + 9]] for k in range(9)])
        self.come(Errand(line_chart(4), 0), [1], [[[1]], [[2]], [[3]], [], [], [], [], [], []])

    def test_from_the_chart_with_all_steps(self):
        # By rest and hear the same set comes again; walk, fall and peek bring new ones.
        self.come(Errand(CHART, 0), [0], [[[0]], [[1], [0, 1]], [[2], [1, 2]], [[3], [2, 3], [0, 2, 4]]])
        self.come(Errand(CHART, 0), [4], [[[4]], [ALL], []])
        self.come(Errand(CHART, 0), [0, 1, 2, 4], [[[0, 1, 2, 4]], [[0, 2], [1, 4]], [[0], [2], [1, 3]]])

    def test_each_where_it_came_first(self):
        deeds = [("one", 1, [[1], [2], [3], [3]]), ("two", 1, [[2], [3], [0], [0]]), ("none", 1, [[0], [1], [2], [3]])]
        errand = Errand(Chart(4, deeds, []), 0)
        self.come(errand, [0], [[[0]], [[1], [2]], [[3]], [], []])
        self.come(errand, [1], [[[1]], [[2], [3]], [[0]], [], []])
        self.come(errand, [0, 1], [
            [[0, 1]], [[1, 2], [2, 3]], [[0], [3], [0, 3]], [[1], [2], [0, 2], [1, 3]],
        ])

    def test_rising(self):
        deeds = [(f"to {k}", 1, [[k]] * 6) for k in [4, 1, 5, 0, 3, 2]]
        self.come(Errand(Chart(6, deeds, []), 0), [2], [[[2]], [[0], [1], [3], [4], [5]], []])
        looks = [("l", 1, ["d", "a", "c", "b"])]
        self.come(Errand(Chart(4, [], looks), 0), [0, 1, 2, 3], [[[0, 1, 2, 3]], [[0], [1], [2], [3]], []])

    def test_not_all_in_the_keep(self):
        for keep, worlds in [([], [0]), ([0, 1, 2], [2, 3]), ([1, 2, 3, 4], ALL), ([0], [1])]:
            self.come(Errand(CHART, 31, set_of(keep)), worlds, [[]] * 9)
            self.come(Errand(CHART, 0, set_of(keep)), worlds, [[]] * 9)

    def test_nothing_comes_of_the_goal(self):
        chart = line_chart(9)
        self.come(Errand(chart, 4), [0], [[[0]], [[1]], [[2]], [], [], []])
        self.come(Errand(chart, 1), [0], [[[0]], [], []])
        # Of what is partly in the goal something comes.
        self.come(Errand(chart, set_of([2, 3])), [0, 1], [[[0, 1]], [[1, 2]], [[2, 3]], [], []])
        self.come(Errand(chart, set_of([2, 4])), [0, 1], [[[0, 1]], [[1, 2]], [[2, 3]], [[3, 4]], [[4, 5]]])
        self.come(Errand(chart, set_of(range(9))), [3, 4], [[[3, 4]], [], []])

    def test_goal_sets_are_told_beside_others(self):
        deeds = [("a", 1, [[1], [3], [3], [4], []]), ("b", 1, [[2], [4], [4], [], []])]
        chart = Chart(5, deeds, [])
        self.come(Errand(chart, set_of([1])), [0], [[[0]], [[1], [2]], [[3], [4]], []])
        self.come(Errand(chart, set_of([1, 2])), [0], [[[0]], [[1], [2]], [], []])

    def test_only_by_deeds_that_stay_in_the_keep(self):
        chart = line_chart(9)
        self.come(Errand(chart, 0, set_of([0, 1, 2, 4, 5])), [0], [[[0]], [[1]], [[2]], [], []])
        self.come(Errand(chart, 0, set_of([0, 1, 2, 4, 5])), [0, 1], [[[0, 1]], [[1, 2]], [], []])
        deeds = [("out", 1, [[0, 1], [1], [2]]), ("over", 1, [[1], [1], [2]]), ("away", 1, [[2], [0], [0]])]
        self.come(Errand(Chart(3, deeds, []), 0, 5), [0], [[[0]], [[2]], []])
        self.come(Errand(Chart(3, deeds, []), 0, 3), [0], [[[0]], [[1], [0, 1]], []])

    def test_only_by_deeds_that_can_be_done(self):
        chart = Chart(3, [("a", 1, [[1], [], [2]]), ("b", 1, [[], [], []])], [])
        self.come(Errand(chart, 0), [0, 2], [[[0, 2]], [[1, 2]], []])
        self.come(Errand(chart, 0), [0, 1], [[[0, 1]], [], []])
        self.come(Errand(chart, 0), [1], [[[1]], [], []])

    def test_only_by_looks_that_can_be_taken(self):
        chart = Chart(4, [], [("l", 1, ["x", "y", None, "x"]), ("m", 1, [None] * 4)])
        self.come(Errand(chart, 0), [0, 1, 3], [[[0, 1, 3]], [[1], [0, 3]], []])
        self.come(Errand(chart, 0), [0, 1, 2], [[[0, 1, 2]], [], []])
        self.come(Errand(chart, 0), [2], [[[2]], [], []])

    def test_parts_by_looks(self):
        looks = [("high", 1, ["n", "n", "y", "y"]), ("odd", 1, ["n", "y", "n", "y"]), ("same", 1, ["a"] * 4)]
        chart = Chart(4, [], looks)
        self.come(Errand(chart, 0), [0, 1, 2, 3], [
            [[0, 1, 2, 3]], [[0, 1], [0, 2], [1, 3], [2, 3]], [[0], [1], [2], [3]], [], [],
        ])
        self.come(Errand(chart, 3), [0, 1, 2, 3], [
            [[0, 1, 2, 3]], [[0, 1], [0, 2], [1, 3], [2, 3]], [[0], [1], [2], [3]], [], [],
        ])
        self.come(Errand(chart, 0), [0, 3], [[[0, 3]], [[0], [3]], []])
        # A look that tells nothing new leaves the set as it is.
        self.come(Errand(chart, 0), [1], [[[1]], [], []])

    def test_the_empty_set(self):
        for errand in [Errand(CHART, 0), Errand(CHART, 31), Errand(CHART, 0, 0), Errand(CHART, 3, 4)]:
            self.come(errand, [], [[[]], [], [], [], [], [], [], [], []])

    def test_by_their_names(self):
        self.assertEqual(coming(most=1, some=1, errand=Errand(line_chart(3), 0)), [[1], [2]])
        self.assertEqual(least(most=1, some=1, errand=Errand(line_chart(3), 2)), 1)

    def test_somewhat_beyond_the_bound(self):
        errand = Errand(line_chart(12), 2 ** 11)
        self.assertEqual(coming(errand, 1, 11), [[2 ** k] for k in range(12)])
        self.assertEqual((least(errand, 1, 10), least(errand, 1, 11)), (None, 11))

    def test_told_lists_are_the_askers_own(self):
        errand = Errand(CHART, 0)
        for some in [1, 32]:
            first = coming(errand, some, 3)
            second = coming(errand, some, 3)
            kept = [list(level) for level in first]
            for level in first:
                level.append(99)
            first.append([7])
            self.assertEqual(second, kept)
            self.assertEqual(coming(errand, some, 3), kept)
        out = coming(Errand(CHART, 0, 0), 1, 3)
        out[0].append(5)
        self.assertEqual(out, [[5], [], [], []])

    def test_what_is_handed_in_stays(self):
        errand = Errand(CHART, 16, 23)
        coming(errand, 5, 4)
        least(errand, 5, 4)
        self.assertEqual((errand.goal(), errand.keep()), (16, 23))
        self.assertEqual(chart_told(errand.chart()), (5, DEEDS, LOOKS))

    def test_each_small_errand(self):
        for tables in TABLES:
            chart = Chart(*tables)
            subsets = [worlds_of(some) for some in range(2 ** tables[0])]
            for goal in subsets:
                for keep in subsets:
                    errand = Errand(chart, set_of(goal), set_of(keep))
                    for worlds in subsets:
                        told = sets_come(tables, goal, keep, worlds, 4)
                        self.assertEqual(coming(errand, set_of(worlds), 4), told)

    def test_each_bound(self):
        for tables in many_tables(30):
            chart = Chart(*tables)
            everything = list(range(tables[0]))
            for goal, keep in [([0], everything), ([], everything), ([2, 3], everything[1:]), ([1], everything[:4])]:
                errand = Errand(chart, set_of(goal), set_of(keep))
                for worlds in [everything, [1, 2, 3], [3], [1, 3]]:
                    for most in [0, 1, 2, 5, 8]:
                        told = sets_come(tables, goal, keep, worlds, most)
                        self.assertEqual(coming(errand, set_of(worlds), most), told)


class TooManySets(ValuesTest):
    def test_by_a_look(self):
        few = Errand(told_apart(199), 0)
        self.assertEqual(coming(few, 2 ** 199 - 1, 1), [[2 ** 199 - 1], [2 ** k for k in range(199)]])
        self.assertEqual([len(level) for level in coming(few, 2 ** 199 - 1, 8)], [1, 199] + [0] * 7)
        self.assertIsNone(least(few, 2 ** 199 - 1, 8))
        many = Errand(told_apart(200), 0)
        self.assertEqual(coming(many, 2 ** 200 - 1, 0), [[2 ** 200 - 1]])
        self.assertIsNone(least(many, 2 ** 200 - 1, 0))
        for most in range(1, 9):
            self.too_many(many, 2 ** 200 - 1, most)

    def test_by_deeds(self):
        errand = Errand(grown(200), 0)
        levels = [[2 ** world for world in range(2 ** k - 1, min(2 ** (k + 1) - 1, 200))] for k in range(8)]
        self.assertEqual(sum([len(level) for level in levels]), 200)
        self.assertEqual(coming(errand, 1, 7), levels)
        self.assertEqual(coming(errand, 1, 8), levels + [[]])
        self.assertIsNone(least(errand, 1, 8))

    def test_the_one_too_many_comes_one_step_later(self):
        errand = Errand(grown(200, [("more", 1, only_in(200, 199, [0, 1]))]), 0)
        self.assertEqual(coming(errand, 1, 7), coming(Errand(grown(200), 0), 1, 7))
        self.assertIsNone(least(errand, 1, 7))
        self.too_many(errand, 1, 8)
        # Where 199 itself is the goal, nothing comes of it.
        at_end = Errand(grown(200, [("more", 1, only_in(200, 199, [0, 1]))]), 2 ** 199)
        self.assertEqual(coming(at_end, 1, 8), coming(Errand(grown(200), 0), 1, 8))
        self.assertEqual(least(at_end, 1, 8), 9)
        later = Errand(told_apart(199, [("more", 1, only_in(199, 7, [3, 4]))]), 0)
        self.assertEqual([len(level) for level in coming(later, 2 ** 199 - 1, 1)], [1, 199])
        self.too_many(later, 2 ** 199 - 1, 2)

    def test_the_same_set_again_does_not_count(self):
        deeds = [("same", 1, [[k] for k in range(199)]), ("back", 1, [list(range(199))] * 199)]
        errand = Errand(told_apart(199, deeds), 0)
        self.assertEqual([len(level) for level in coming(errand, 2 ** 199 - 1, 8)], [1, 199] + [0] * 7)

    def test_what_leaves_the_keep_does_not_count(self):
        deeds = [("more", 1, only_in(199, 7, [3, 4])), ("home", 3, [[0]] * 199)]
        chart = told_apart(199, deeds)
        self.too_many(Errand(chart, 1), 2 ** 199 - 1, 2)
        keep = 2 ** 199 - 1 - 2 ** 4
        self.assertEqual([len(level) for level in coming(Errand(chart, 1, keep), keep, 8)], [1, 198] + [0] * 7)
        self.assertEqual(least(Errand(chart, 1, keep), keep, 8), 3)

    def test_what_is_in_the_goal_counts_but_brings_no_more(self):
        deeds = [("more", 1, only_in(199, 7, [3, 4]))]
        goal = 2 ** 7
        errand = Errand(told_apart(199, deeds), goal)
        self.assertEqual([len(level) for level in coming(errand, 2 ** 199 - 1, 8)], [1, 199] + [0] * 7)
        self.too_many(Errand(told_apart(200), 2 ** 200 - 1 - 1), 2 ** 200 - 1, 1)
        self.assertEqual(coming(Errand(told_apart(200), 2 ** 200 - 1), 2 ** 200 - 1, 8), [[2 ** 200 - 1]] + [[]] * 8)

    def test_ahead_of_a_price(self):
        # A deed leads to the goal at once, but too many sets come.
        chart = told_apart(200, [("home", 3, [[0]] * 200)])
        errand = Errand(chart, 1)
        self.assertIsNone(least(errand, 2 ** 200 - 1, 0))
        self.too_many(errand, 2 ** 200 - 1, 1)
        self.assertEqual(least(errand, 2 ** 198 - 1, 8), 3)
        self.assertEqual(least(errand, 2 ** 199 - 1, 1), 3)
        # Where the set is in the goal already, or not in the keep, nothing comes of it.
        self.assertEqual(least(Errand(chart, 2 ** 200 - 1), 2 ** 200 - 1, 8), 0)
        self.assertIsNone(least(Errand(chart, 1, 2 ** 199 - 1), 2 ** 200 - 1, 8))

    def test_far_too_many(self):
        tables = [[sorted({(k * 7 + j) % 200, (k * k + 3 * j) % 200}) for k in range(200)] for j in range(40)]
        deeds = [(f"{j}", 1, table) for j, table in enumerate(tables)]
        looks = [(f"look {j}", 1, [f"{(k * k + j * k) % 97}" for k in range(200)]) for j in range(40)]
        errand = Errand(Chart(200, deeds, looks), 0)
        self.too_many(errand, 2 ** 200 - 1, 8)
        self.too_many(errand, 1, 8)

    def test_a_refusal_changes_nothing(self):
        errand = Errand(told_apart(200), 1)
        self.too_many(errand, 2 ** 200 - 1, 8)
        self.assertEqual(coming(errand, 3, 2), [[3], [1, 2], []])
        self.too_many(errand, 2 ** 200 - 1, 8)
        self.assertEqual(errand.goal(), 1)


class Least(ValuesTest):
    def test_nothing_to_do(self):
        for worlds in [[0], [1, 3], ALL]:
            self.prices(Errand(CHART, 31), worlds, [0] * 9)
            self.prices(Errand(CHART, set_of(worlds), set_of(worlds)), worlds, [0] * 9)

    def test_in_the_goal_but_not_in_the_keep(self):
        self.prices(Errand(CHART, 31, 1), [1], [None] * 9)
        self.prices(Errand(CHART, 31, 15), ALL, [None] * 9)
        self.prices(Errand(CHART, 31, 0), [0], [None] * 9)

    def test_not_in_the_keep_though_a_deed_would_lead_there(self):
        self.prices(Errand(line_chart(3), 4, 6), [0], [None] * 9)
        self.prices(Errand(line_chart(3), 4, 6), [0, 1], [None] * 9)
        self.prices(Errand(line_chart(3), 4, 6), [1], [None] + [1] * 8)

    def test_no_plan(self):
        self.prices(Errand(CHART, 0), [0], [None] * 9)
        self.prices(Errand(line_chart(3), 1), [1], [None] * 9)
        self.prices(Errand(Chart(2, [], []), 1), [1], [None] * 9)
        self.prices(Errand(Chart(2, [], [("l", 1, ["x", "y"])]), 1), [0, 1], [None] * 9)

    def test_no_plan_within_the_steps(self):
        self.prices(Errand(line_chart(9, 5), 2 ** 8), [0], [None] * 8 + [40])
        self.prices(Errand(line_chart(9, 5), 2 ** 8), [5], [None] * 3 + [15] * 6)
        self.prices(Errand(line_chart(10, 5), 2 ** 9), [0], [None] * 9)

    def test_a_dear_short_way_and_a_cheap_long_one(self):
        deeds = [
            ("walk", 2, [[1], [2], [3], [4], []]), ("jump", 10, [[4], [4], [4], [4], []]),
            ("hop", 7, [[2], [], [4], [], []]),
        ]
        self.prices(Errand(Chart(5, deeds, []), 16), [0], [None, 10, 10, 10, 8, 8, 8, 8, 8])
        self.prices(Errand(Chart(5, deeds, []), 16), [1], [None, 10, 9, 6, 6, 6, 6, 6, 6])
        self.prices(Errand(Chart(5, deeds, []), 16), [2], [None, 7, 4, 4, 4, 4, 4, 4, 4])

    def test_a_cheap_long_way_behind_a_set_that_came_early(self):
        # World 1 comes after one step, dear, and after three, cheap.
        deeds = [("dear", 50, [[1], [], [], []]), ("a", 1, [[2], [], [3], [1]])]
        goal_deed = [("end", 4, [[], [4], [], [], []])]
        chart = Chart(5, [(name, price, table + [[]]) for name, price, table in deeds] + goal_deed, [])
        self.prices(Errand(chart, 16), [0], [None, None, 54, 54, 7, 7, 7, 7, 7])

    def test_a_look_whose_ways_cost_unlike(self):
        deeds = [("near", 1, [[], [3], [], []]), ("far", 5, [[3], [], [], []]), ("away", 9, [[], [], [3], []])]
        chart = Chart(4, deeds, [("l", 2, ["x", "y", "z", "z"])])
        errand = Errand(chart, 8)
        self.prices(errand, [0, 1], [None, None, 7, 7, 7])
        self.prices(errand, [1, 3], [None, None, 3, 3, 3])
        self.prices(errand, [0, 1, 2], [None, None, 11, 11, 11])
        # World 3 is done and tells what world 2 tells, which only a deed could mend that cannot be done in 3.
        self.prices(errand, [2, 3], [None] * 5)
        self.prices(errand, [0, 1, 2, 3], [None] * 5)

    def test_ways_of_unlike_depth(self):
        deeds = [("on", 3, [[1], [2], [3], [], [3]])]
        chart = Chart(5, deeds, [("l", 1, ["x", "x", "y", "z", "w"])])
        self.prices(Errand(chart, 8), [0, 4], [None, None, None, None, 10, 10])
        self.prices(Errand(chart, 8), [2, 3], [None, None, 4, 4])

    def test_a_look_is_not_always_worth_its_price(self):
        deeds = [("a", 1, [[2], [1], [2]]), ("b", 1, [[0], [2], [2]]), ("both", 4, [[2], [2], [2]])]
        for price, told in [(1, [None, 4, 2, 2]), (2, [None, 4, 2, 2]), (9, [None, 4, 2, 2])]:
            self.prices(Errand(Chart(3, deeds, [("l", price, ["x", "y", "z"])]), 4), [0, 1], told)
        dear = [("a", 3, [[2], [1], []]), ("b", 3, [[0], [2], []])]
        for price, told in [(1, [None, None, 4, 4]), (9, [None, None, 12, 12])]:
            self.prices(Errand(Chart(3, dear, [("l", price, ["x", "y", "z"])]), 4), [0, 1], told)

    def test_the_cheaper_of_two_looks(self):
        looks = [("l", 5, ["x", "y", "z"]), ("m", 2, ["x", "y", "z"]), ("n", 1, ["x", "x", "z"])]
        deeds = [("a", 3, [[2], [], []]), ("b", 3, [[], [2], []])]
        self.prices(Errand(Chart(3, deeds, looks), 4), [0, 1], [None, None, 5, 5])

    def test_deeds_after_which_several_worlds_may_come(self):
        deeds = [("toss", 1, [[1, 2], [], [], []]), ("fix", 3, [[], [3], [3], []]), ("one", 1, [[], [3], [], []])]
        chart = Chart(4, deeds, [("l", 1, ["a", "b", "c", "d"])])
        self.prices(Errand(chart, 8), [0], [None, None, 4, 4, 4])
        self.prices(Errand(chart, set_of([1, 3])), [0], [None, None, 4, 4, 4])
        self.prices(Errand(chart, set_of([1, 2])), [0], [None, 1, 1, 1, 1])
        dear = [("toss", 1, [[1, 2], [], [], []]), ("one", 2, [[], [3], [], []]), ("two", 4, [[], [], [3], []])]
        chart = Chart(4, dear, [("l", 1, ["a", "b", "c", "d"])])
        self.prices(Errand(chart, 8), [0], [None, None, None, 6, 6])
        self.prices(Errand(chart, set_of([2, 3])), [0], [None, None, None, 4, 4])

    def test_a_ring_in_which_luck_is_needed(self):
        # Each toss may leave the world as it was, so no tree of whatever depth is sure.
        deeds = [("toss", 1, [[0, 1], []])]
        self.prices(Errand(Chart(2, deeds, [("l", 1, ["a", "b"])]), 2), [0], [None] * 9)

    def test_the_keep_bars_the_cheap_way(self):
        deeds = [("walk", 1, [[1], [3], [], []]), ("round", 8, [[2], [], [3], []])]
        chart = Chart(4, deeds, [])
        self.prices(Errand(chart, 8), [0], [None, None, 2, 2])
        self.prices(Errand(chart, 8, set_of([0, 2, 3])), [0], [None, None, 16, 16])
        self.prices(Errand(chart, 8, set_of([0, 3])), [0], [None, None, None, None])

    def test_great_prices(self):
        self.prices(Errand(line_chart(9, 10 ** 9), 2 ** 8), [0], [None] * 8 + [8 * 10 ** 9])
        tables = [["n" if (world >> k) % 2 else "y" for world in range(128)] + ["e"] for k in range(7)]
        looks = [(f"l{k}", 10 ** 9, table) for k, table in enumerate(tables)]
        deeds = [(f"d{world}", 10 ** 9, only_in(129, world, [128])) for world in [0, 5, 127]]
        errand = Errand(Chart(129, deeds, looks), 2 ** 128)
        self.prices(errand, [0, 5, 127], [None, None, None, 3 * 10 ** 9])
        self.prices(errand, [0, 127], [None, None, 2 * 10 ** 9])

    def test_the_empty_set(self):
        for errand in [Errand(CHART, 0), Errand(CHART, 0, 0), Errand(CHART, 31), Errand(Chart(1, [], []), 0)]:
            self.prices(errand, [], [0] * 9)

    def test_two_hundred_sets(self):
        deeds = [("home", 3, [[0]] * 199)]
        self.prices(Errand(told_apart(199, deeds), 1), list(range(199)), [None, 3, 3, 3, 3, 3, 3, 3, 3])
        errand = Errand(grown(200), 2 ** 199)
        # 199 comes from 99, 49, 24, 11, 5, 2 and 0, by left where it is odd.
        self.prices(errand, [0], [None] * 7 + [9, 9])

    def test_asked_in_any_order(self):
        errand = Errand(line_chart(9, 5), 2 ** 8)
        for most in [8, 3, 8, 0, 7, 8]:
            self.assertEqual(least(errand, 1, most), 40 if most == 8 else None)


class AllPlans(ValuesTest):
    def check(self, tables, depth, subsets, errands):
        """Holds the least price against all plans of a small depth."""
        chart = Chart(*tables)
        costs = prices_in(tables)
        ones = {name: 1 for name in costs}
        trees = [(tree_price(tree, ones), tree_price(tree, costs), tree) for tree in trees_on(tables, depth)]
        for goal, keep in errands:
            errand = Errand(chart, set_of(goal), set_of(keep))
            for worlds in subsets:
                done = [tree for tree in trees if not tree_walked(tables, goal, keep, worlds, tree[2])[1]]
                for most in range(depth + 1):
                    told = min([price for steps, price, tree in done if steps <= most], default=None)
                    self.assertEqual(least(errand, set_of(worlds), most), told, (tables, goal, keep, worlds, most))

    def test_all_plans_of_two_steps(self):
        for tables in TABLES:
            many = tables[0]
            everything = list(range(many))
            subsets = [worlds_of(some) for some in range(2 ** many)]
            errands = [(goal, everything) for goal in subsets]
            errands += [([many - 1], everything[1:]), (everything, everything[1:]), ([0], everything[:-1])]
            self.check(tables, 2, subsets, errands)

    def test_all_plans_of_three_steps(self):
        for tables in TABLES[:8]:
            many = tables[0]
            everything = list(range(many))
            self.check(tables, 3, [everything, [0], everything[:2]], [([many - 1], everything), ([0], everything)])

    def test_each_bound_up_to_eight(self):
        for tables in TABLES + many_tables(30):
            chart = Chart(*tables)
            everything = list(range(tables[0]))
            errands = [([0], everything), ([1, 2], everything), ([2, 3], everything[1:]), ([1], everything[:4])]
            for goal, keep in errands:
                errand = Errand(chart, set_of(goal), set_of(keep))
                price = price_model(tables, goal, keep)
                for worlds in [everything, everything[1:4], everything[:1], everything[-1:], everything[::2]]:
                    for most in range(9):
                        found = least(errand, set_of(worlds), most)
                        self.assertEqual(found, price(frozenset(worlds), most), (tables, goal, keep, worlds, most))

    def test_the_models_tell_both(self):
        """Plans and none, and prices that fall with the bound: else the tests above would ask little."""
        found = []
        for tables in many_tables(30):
            price = price_model(tables, [1, 2], list(range(tables[0])))
            found.append(tuple([price(frozenset([0]), most) for most in range(9)]))
        self.assertGreater(len([told for told in found if told[8] is None]), 1)
        self.assertGreater(len([told for told in found if told[8] is not None]), 9)
        self.assertGreater(len([told for told in found if len(set(told) - {None}) > 1]), 1)

    def test_by_what_does_and_price_by_tell(self):
        tables = TABLES[5]
        errand = Errand(Chart(*tables), 4)
        plans = [plan_of(tree) for tree in trees_on(tables, 3)]
        for some in range(8):
            done = [plan for plan in plans if does(errand, some, plan)]
            for most in range(4):
                told = [plan.price_by(errand.chart()) for plan in done if plan.depth() <= most]
                self.assertEqual(least(errand, some, most), min(told, default=None))


if __name__ == "__main__":
    unittest.main()
