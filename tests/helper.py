"""What the tests share: a room, every world of a room, and a chart beside the tables that it is made of."""

import itertools

from grope.charts import Chart
from grope.rooms import Room

ROOM = Room([
    "place floor", "box bin", "box chest key", "thing ball round", "thing key flat", "thing coin flat",
])

# Lines that stand in no wise order, a place without a lid beside the floor, one key of two boxes.
WIDE_LINES = [
    "thing ball round", "place floor", "box safe key", "box bin", "thing key flat", "place shelf", "box chest key",
    "thing coin flat", "thing cube edged",
]
WIDE = Room(WIDE_LINES)

# Small rooms; the names begin with one another, and shapes are called like places and things.
SMALL = [
    Room(["place a"]),
    Room(["place a", "thing u a"]),
    Room(["place a", "box b", "thing u s", "thing v u"]),
    Room(["thing v s", "place a", "place ab", "box b u", "thing u v"]),
    Room(["place b", "box a u", "box ab v", "thing u s", "thing v s"]),
]

# A chart of five worlds; names and answers stand in no wise order.
DEEDS = [
    ("walk", 3, [[1], [2], [3], [4], []]),
    ("rest", 1, [[0], [1], [2], [3], [4]]),
    ("fall", 10, [[0, 1], [], [0, 2, 4], [], [0, 1, 2, 3, 4]]),
    ("dive", 4, [[], [], [], [], []]),
]
LOOKS = [
    ("peek", 2, ["red", "blue", "red", None, "blue"]),
    ("ask", 7, [None, None, None, None, None]),
    ("hear", 1, ["hum", "hum", "hum", "hum", "hum"]),
    ("count", 5, ["4", "10", "2", "0", None]),
]
CHART = Chart(5, DEEDS, LOOKS)


def all_worlds(room):
    """Every world of a room, made straight from point 7."""
    places = room.places()
    things = room.things()
    lids = []
    for place in places:
        words = ["open"]
        if room.lidded(place):
            words.append("shut")
        if room.key_of(place) is not None:
            words.append("locked")
        lids.append(words)
    worlds = []
    for hand in [None] + things:
        for heaps in all_heaps([thing for thing in things if thing != hand], len(places)):
            for lid in itertools.product(*lids):
                worlds.append((hand, heaps, lid))
    return worlds


def all_heaps(things, many):
    found = set()
    for order in itertools.permutations(things):
        for spots in itertools.product(range(many), repeat=len(things)):
            found.add(tuple(tuple(t for t, s in zip(order, spots) if s == k) for k in range(many)))
    return sorted(found)


def chart_told(chart):
    """All that a chart tells, in plain values."""
    worlds = range(chart.size())
    deeds = [
        (name, chart.price_of(name), [chart.outs(name, world) for world in worlds]) for name in chart.deed_names()
    ]
    looks = [
        (name, chart.price_of(name), [chart.answer_of(name, world) for world in worlds])
        for name in chart.look_names()
    ]
    return (chart.size(), deeds, looks)
