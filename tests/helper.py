"""What the tests share: a room, every world of a room, charts beside the tables that they are made of, and plans.

Here a plan is a tree of plain values, too: ("stop",), ("do", NAME, TREE) or ("look", NAME, [(ANSWER, TREE), ..]).
"""

import itertools

from grope.charts import Chart
from grope.plans import Do, Look, Stop
from grope.rooms import Room

ROOM = Room([
    "place floor", "box bin", "box chest key", "thing ball round", "thing key flat", "thing coin flat",
])

# Lines that stand in no wise order, a place without a lid beside the floor, one key of two boxes.
WIDE_LINES = [
    "thing ball round", "place floor", "box safe key", "box bin", "thing key flat", "place shelf", "box chest key",
    "thing coin flat", "thing cube edged",
]
WIDE = Room(WIDE_LINES)

# Small rooms; the names begin with one another, and shapes are called like places and things.
SMALL = [
    Room(["place a"]),
    Room(["place a", "thing u a"]),
    Room(["place a", "box b", "thing u s", "thing v u"]),
    Room(["thing v s", "place a", "place ab", "box b u", "thing u v"]),
    Room(["place b", "box a u", "box ab v", "thing u s", "thing v s"]),
]

# A chart of five worlds; names and answers stand in no wise order.
DEEDS = [
    ("walk", 3, [[1], [2], [3], [4], []]),
    ("rest", 1, [[0], [1], [2], [3], [4]]),
    ("fall", 10, [[0, 1], [], [0, 2, 4], [], [0, 1, 2, 3, 4]]),
    ("dive", 4, [[], [], [], [], []]),
]
LOOKS = [
    ("peek", 2, ["red", "blue", "red", None, "blue"]),
    ("ask", 7, [None, None, None, None, None]),
    ("hear", 1, ["hum", "hum", "hum", "hum", "hum"]),
    ("count", 5, ["4", "10", "2", "0", None]),
]
CHART = Chart(5, DEEDS, LOOKS)

# Small charts, as (worlds, deeds, looks): lone worlds, dead ends, rings, looks that tell all and nothing, deeds that
# may turn out in several ways, short ways that are dear.
TABLES = [
    (1, [("a", 2, [[]])], [("l", 1, ["x"])]),
    (1, [("a", 2, [[0]])], [("l", 1, [None])]),
    (2, [("a", 1, [[0, 1], []])], [("l", 3, ["x", "y"])]),
    (2, [("a", 5, [[1], [0, 1]]), ("b", 1, [[0], [0]])], [("l", 2, [None, "y"])]),
    (3, [("a", 4, [[1, 2], [2], []]), ("b", 1, [[], [0], [0, 1, 2]])], [("l", 2, ["x", "y", None])]),
    (3, [("a", 1, [[1], [2], [0]]), ("b", 3, [[0, 2], [], [2]])], [("l", 1, ["y", "x", "y"])]),
    (3, [("a", 1, [[1], [2], [2]]), ("b", 9, [[2], [2], [2]])], [("l", 4, ["x", "x", "y"])]),
    (4, [("a", 2, [[1, 2], [3], [3], []]), ("b", 7, [[], [0, 2], [1], [0, 3]])], [("l", 1, [None, "x", "y", "x"])]),
    (4, [("a", 1, [[2], [3], [2], [3]]), ("b", 6, [[3], [2], [3], [2]])], [("l", 2, ["x", "y", "x", "y"])]),
]


def all_worlds(room):
    """Every world of a room, made straight from point 7."""
    places = room.places()
    things = room.things()
    lids = []
    for place in places:
        words = ["open"]
        if room.lidded(place):
            words.append("shut")
        if room.key_of(place) is not None:
            words.append("locked")
        lids.append(words)
    worlds = []
    for hand in [None] + things:
        for heaps in all_heaps([thing for thing in things if thing != hand], len(places)):
            for lid in itertools.product(*lids):
                worlds.append((hand, heaps, lid))
    return worlds


def all_heaps(things, many):
    found = set()
    for order in itertools.permutations(things):
        for spots in itertools.product(range(many), repeat=len(things)):
            found.add(tuple(tuple(t for t, s in zip(order, spots) if s == k) for k in range(many)))
    return sorted(found)


def chart_told(chart):
    """All that a chart tells, in plain values."""
    worlds = range(chart.size())
    deeds = [
        (name, chart.price_of(name), [chart.outs(name, world) for world in worlds]) for name in chart.deed_names()
    ]
    looks = [
        (name, chart.price_of(name), [chart.answer_of(name, world) for world in worlds])
        for name in chart.look_names()
    ]
    return (chart.size(), deeds, looks)


def plan_of(tree):
    if tree[0] == "stop":
        return Stop()
    if tree[0] == "do":
        return Do(tree[1], plan_of(tree[2]))
    return Look(tree[1], [(answer, plan_of(way)) for answer, way in tree[2]])


def tree_of(plan):
    """All that a plan tells of itself, in plain values."""
    if isinstance(plan, Stop):
        return ("stop",)
    if isinstance(plan, Do):
        return ("do", plan.deed, tree_of(plan.rest))
    return ("look", plan.look, [(answer, tree_of(way)) for answer, way in plan.ways()])


def run_of(names, tree=("stop",)):
    """Deeds one behind another, and the tree behind them."""
    for name in reversed(names):
        tree = ("do", name, tree)
    return tree


def look_run(names, answer, tree=("stop",)):
    """Looks one behind another by that answer, and the tree behind them."""
    for name in reversed(names):
        tree = ("look", name, [("first", ("stop",)), (answer, tree), ("last", ("stop",))])
    return tree


def all_trees(deeds, looks, depth):
    """Every tree of at most that depth; looks are pairs (name, answers), and the ways stand in the answers' order."""
    found = [("stop",)]
    if depth == 0:
        return found
    below = all_trees(deeds, looks, depth - 1)
    for name in deeds:
        found.extend(("do", name, tree) for tree in below)
    for name, answers in looks:
        for many in range(1, len(answers) + 1):
            for told in itertools.combinations(answers, many):
                for ways in itertools.product(below, repeat=many):
                    found.append(("look", name, list(zip(told, ways))))
    return found


def trees_on(tables, depth, more=()):
    """Every tree of at most that depth with a chart's steps, and only answers that some world tells or more."""
    looks = [(name, sorted(({*table} - {None}) | {*more})) for name, price, table in tables[2]]
    return all_trees([name for name, price, table in tables[1]], looks, depth)


def rows_below(tree):
    """A tree's rows in the order of point 20, each a tree itself."""
    if tree[0] == "stop":
        return [tree]
    if tree[0] == "do":
        return [tree] + rows_below(tree[2])
    return [tree] + [row for answer, way in tree[2] for row in rows_below(way)]


def renamed(tree, number, name):
    """The tree with another name at that row."""
    if number == 0:
        return (tree[0], name, tree[2])
    if tree[0] == "do":
        return ("do", tree[1], renamed(tree[2], number - 1, name))
    ways = []
    number -= 1
    for answer, way in tree[2]:
        many = len(rows_below(way))
        ways.append((answer, renamed(way, number, name) if 0 <= number < many else way))
        number -= many
    return ("look", tree[1], ways)


def tree_price(tree, prices):
    """Point 21, by a dict from names to prices."""
    if tree[0] == "stop":
        return 0
    below = [tree[2]] if tree[0] == "do" else [way for answer, way in tree[2]]
    return prices[tree[1]] + max(tree_price(way, prices) for way in below)


def prices_in(tables):
    return {name: price for name, price, table in tables[1] + tables[2]}


def tree_walked(tables, goal, keep, worlds, tree):
    """Point 23, world by world: (what comes to each row, the wrong worlds as (row, world, why)); all sets of Python."""
    steps = {name: table for name, price, table in tables[1] + tables[2]}
    come = [set() for row in rows_below(tree)]
    wrong = set()

    def fault(one, world):
        if world not in keep:
            return "keep"
        if one[0] == "stop":
            return None if world in goal else "goal"
        if steps[one[1]][world] in ([], None):
            return "cannot"
        if one[0] == "look" and steps[one[1]][world] not in dict(one[2]):
            return "answer"
        return None

    def walk(one, number, world):
        come[number].add(world)
        why = fault(one, world)
        if why is not None:
            wrong.add((number, world, why))
        elif one[0] == "do":
            for new in steps[one[1]][world]:
                walk(one[2], number + 1, new)
        elif one[0] == "look":
            behind = number + 1
            for answer, way in one[2]:
                if answer == steps[one[1]][world]:
                    walk(way, behind, world)
                behind += len(rows_below(way))

    for world in worlds:
        walk(tree, 0, world)
    return (come, wrong)
