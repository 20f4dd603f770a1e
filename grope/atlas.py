"""The atlas: all worlds of a room that come from the told ones by the told deeds, on a chart (point 15)."""

from grope.charts import Chart, MOST_WORLDS, check_steps
from grope.deeds import read_deed, turns
from grope.errors import NoWorld, TooMany
from grope.facts import holds
from grope.looks import looked, read_look
from grope.sets import set_of
from grope.worlds import changes


def check_told(room, deeds, looks):
    for deed in deeds:
        read_deed(room, deed[0])
    for look in looks:
        read_look(room, look[0])
    # The chart would ask this, too, but too many worlds are to be refused behind it.
    check_steps(deeds, looks)


def number_all(room, worlds, lines):
    numbers = {}
    add_new(numbers, worlds)
    done = 0
    while done < len(numbers):
        world = list(numbers)[done]
        for line in lines:
            add_new(numbers, turns(room, line, world))
        done = done + 1
    return numbers


def add_new(numbers, worlds):
    for world in worlds:
        if world not in numbers:
            numbers[world] = len(numbers)
    # Asked at once, as what comes may be far too much to wait for.
    if len(numbers) > MOST_WORLDS:
        raise TooMany("there are too many worlds")


def chart_of(room, numbers, deeds, looks):
    charted_deeds = [(deed[0], deed[1], deed_table(room, numbers, deed[0])) for deed in deeds]
    charted_looks = [(look[0], look[1], look_table(room, numbers, look[0])) for look in looks]
    # Where no world was told there are none here, and such a chart is refused.
    return Chart(len(numbers), charted_deeds, charted_looks)


def deed_table(room, numbers, line):
    return [numbers_of(numbers, turns(room, line, world)) for world in numbers]


def numbers_of(numbers, worlds):
    return sorted([numbers[world] for world in worlds])


def look_table(room, numbers, line):
    return [looked(room, line, world) for world in numbers]


def far_from(one, worlds):
    return [changes(one, other) for other in worlds]


class Atlas:
    def __init__(self, room, worlds, deeds, looks):
        check_told(room, deeds, looks)
        self.told_room = room
        self.numbers = number_all(room, worlds, [deed[0] for deed in deeds])
        self.made_chart = chart_of(room, self.numbers, deeds, looks)

    def room(self):
        return self.told_room

    def chart(self):
        return self.made_chart

    def worlds(self):
        return list(self.numbers)

    def number_of(self, world):
        if world not in self.numbers:
            raise NoWorld(f"none of the worlds of the atlas: {world}")
        return self.numbers[world]

    def where(self, fact):
        room = self.told_room
        return set_of([number for world, number in self.numbers.items() if holds(room, fact, world)])

    def far(self):
        worlds = self.worlds()
        return [far_from(world, worlds) for world in worlds]
