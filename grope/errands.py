"""Errands on a chart: where it is to end, and what is never to be left on the way (point 16)."""

from grope.facts import read_errand
from grope.sets import set_of


class Errand:
    def __init__(self, chart, goal, keep=None):
        self.told_chart = chart
        self.told_goal = goal
        self.told_keep = set_of(list(range(chart.size()))) if keep is None else keep

    def chart(self):
        return self.told_chart

    def goal(self):
        return self.told_goal

    def keep(self):
        return self.told_keep


def errand_of(atlas, text):
    facts = read_errand(atlas.room(), text)
    keep = None if facts[1] is None else atlas.where(facts[1])
    return Errand(atlas.chart(), atlas.where(facts[0]), keep)
