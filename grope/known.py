"""What steps make of a set of worlds, and what a hand knows by the events that it noted (points 17 to 19)."""

from grope.errors import Cannot, NoStory
from grope.sets import least_of, set_of, within, without, worlds_of


def can_do(chart, name, some):
    return within(some, chart.doable(name))


def after(chart, name, some):
    outs = chart.out_sets(name)
    check_can(chart, name, some)
    return led_to(outs, some)


def parts(chart, name, some):
    told = chart.answer_sets(name)
    check_can(chart, name, some)
    return [(answer, some & tellers) for answer, tellers in told if (some & tellers) != 0]


def check_can(chart, name, some):
    if not can_do(chart, name, some):
        raise Cannot(name, least_of(without(some, chart.doable(name))))


def led_to(outs, some):
    made = 0
    for world in worlds_of(some):
        made = made | outs[world]
    return made


def behind(chart, event, some):
    # Worlds that the event does not fit drop out, as no story goes on from them.
    if event[0] == "did":
        return led_to(chart.out_sets(event[1]), some)
    if event[0] == "saw":
        return some & dict(chart.answer_sets(event[1])).get(event[2], 0)
    return without(some, chart.doable(event[1]))


def leading_to(chart, event, some, later):
    if event[0] != "did":
        # The world stays the same, and what came behind the event was in the set before.
        return later
    outs = chart.out_sets(event[1])
    return set_of([world for world in worlds_of(some) if (outs[world] & later) != 0])


def all_fitting(chart, events, reached):
    # What was reached may lead no further, so the sets are thinned from the last time back.
    fits = [reached[-1]]
    for time in range(len(events) - 1, -1, -1):
        fits.insert(0, leading_to(chart, events[time], reached[time], fits[0]))
    return fits


def world_behind(chart, event, world, later):
    return least_of(behind(chart, event, set_of([world])) & later)


def world_ahead(chart, event, world, some):
    return least_of(leading_to(chart, event, some, set_of([world])))


class Knower:
    def __init__(self, chart, some):
        self.told_chart = chart
        self.events = []
        # For each time the worlds that fit the events ahead of it; those behind it may leave fewer.
        self.reached = [some]
        self.fits = [some]

    def note(self, event):
        # Asked first: where the name is refused, nothing is to change.
        made = behind(self.told_chart, event, self.known())
        self.events.append(tuple(event))
        self.reached.append(made)

    def time(self):
        return len(self.events)

    def known(self):
        return self.reached[-1]

    def fitting(self, time):
        if not 0 <= time <= self.time():
            raise NoStory(f"there is no such time: {time}")
        return self.fitting_sets()[time]

    def story(self, time, world):
        if world not in worlds_of(self.fitting(time)):
            raise NoStory(f"world {world} does not fit at time {time}")
        fits = self.fitting_sets()
        told = [world]
        for spot in range(time, self.time()):
            told.append(world_behind(self.told_chart, self.events[spot], told[-1], fits[spot + 1]))
        for spot in range(time - 1, -1, -1):
            told.insert(0, world_ahead(self.told_chart, self.events[spot], told[0], fits[spot]))
        return told

    def fitting_sets(self):
        # Made anew only behind a new event, as one hand may be asked for many stories.
        if len(self.fits) != len(self.reached):
            self.fits = all_fitting(self.told_chart, self.events, self.reached)
        return self.fits
