"""Plans: trees of deeds and looks, their depth and price, and the lines they are written as (points 20 to 22)."""

from grope.charts import MOST_SIGNS
from grope.errors import NoPlan


def rows_in(plan):
    # Each row is told as (plan, above, answer): the number of the row that goes on with it, or None of the first one;
    # and the answer by which that goes on, or None where it is no look. No recursion, as a plan may be a deep one.
    rows = []
    waiting = [(plan, None, None)]
    while len(waiting) > 0:
        row = waiting.pop()
        rows.append(row)
        for answer, rest in reversed(row[0].goes_on()):
            waiting.append((rest, len(rows) - 1, answer))
    return rows


def greatest_sum(rows, costs):
    # From the last row up, as each row stands ahead of what it goes on with.
    below = [0 for row in rows]
    for number in range(len(rows) - 1, 0, -1):
        above = rows[number][1]
        below[above] = max(below[above], costs[number] + below[number])
    return costs[0] + below[0]


def check_ways(ways):
    answers = [way[0] for way in ways]
    if len(answers) == 0:
        raise NoPlan("a look without ways")
    if len(set(answers)) < len(answers):
        raise NoPlan("a look with an answer twice")


class Plan:
    def depth(self):
        rows = rows_in(self)
        return greatest_sum(rows, [row[0].steps_here() for row in rows])

    def price_by(self, chart):
        rows = rows_in(self)
        return greatest_sum(rows, [row[0].price_here(chart) for row in rows])

    def lines(self):
        told = []
        indents = []
        for plan, above, answer in rows_in(self):
            indent = "" if above is None else indents[above]
            if answer is not None:
                told.append(f"{indent} case {answer}")
                indent = indent + "  "
            told.append(indent + plan.line_here())
            indents.append(indent)
        return told


class Stop(Plan):
    def goes_on(self):
        return []

    def steps_here(self):
        return 0

    def price_here(self, chart):
        return 0

    def line_here(self):
        return "stop"


class Do(Plan):
    def __init__(self, deed, rest):
        self.deed = deed
        self.rest = rest

    def goes_on(self):
        return [(None, self.rest)]

    def steps_here(self):
        return 1

    def price_here(self, chart):
        chart.check_deed(self.deed)
        return chart.price_of(self.deed)

    def line_here(self):
        return "do " + self.deed


class Look(Plan):
    def __init__(self, look, ways):
        told = tuple([tuple(way) for way in ways])
        check_ways(told)
        self.look = look
        self.told_ways = told

    def ways(self):
        return list(self.told_ways)

    def goes_on(self):
        return self.ways()

    def steps_here(self):
        return 1

    def price_here(self, chart):
        chart.check_look(self.look)
        return chart.price_of(self.look)

    def line_here(self):
        return "look " + self.look


def read_plan(lines):
    # From the last line up: so all that a line goes on with is made when its turn comes. What is made and not yet
    # taken is kept as (blanks ahead, answer, plan), the answer being None of a plan without its case.
    made = []
    for line in reversed(lines):
        made.append(read_line(line, made))
    plan = take_plan(made, 0)
    if len(made) > 0:
        raise NoPlan("there are lines behind the plan's end")
    return plan


def read_line(line, made):
    text = line.lstrip(" ")
    ahead = len(line) - len(text)
    if text == "stop":
        return (ahead, None, Stop())
    words = text.partition(" ")
    name = words[2]
    if not 1 <= len(name) <= MOST_SIGNS:
        raise NoPlan(f"a line without a name, or with too long a one: {line!r}")
    if words[0] == "do":
        return (ahead, None, Do(name, take_plan(made, ahead)))
    if words[0] == "look":
        return (ahead, None, Look(name, take_ways(made, ahead + 1)))
    if words[0] == "case":
        return (ahead, name, take_plan(made, ahead + 1))
    raise NoPlan(f"no line of a plan: {line!r}")


def take_plan(made, ahead):
    if len(made) == 0 or made[-1][:2] != (ahead, None):
        raise NoPlan("no plan stands where one is due")
    return made.pop()[2]


def take_ways(made, ahead):
    ways = []
    while len(made) > 0 and made[-1][0] == ahead and made[-1][1] is not None:
        ways.append(made.pop()[1:])
    return ways
