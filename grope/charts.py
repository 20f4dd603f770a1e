"""Charts: what deeds do and looks tell in numbered worlds, and at which prices (point 14)."""

from grope.errors import NoChart, NoName
from grope.sets import set_of, worlds_of

MOST_WORLDS = 200
MOST_STEPS = 40
MOST_SIGNS = 30
MOST_PRICE = 1000000000


def check_many(many):
    if not 1 <= many <= MOST_WORLDS:
        raise NoChart(f"a chart cannot have so many worlds: {many}")


def check_steps(deeds, looks):
    # Nothing but the name and the price is looked at, as the atlas has no tables yet when it asks.
    if len(deeds) > MOST_STEPS or len(looks) > MOST_STEPS:
        raise NoChart("there are too many deeds or looks")
    steps = list(deeds) + list(looks)
    names = [step[0] for step in steps]
    if len(set(names)) < len(names):
        raise NoChart("a name stands twice")
    for step in steps:
        check_name(step[0])
        check_price(step[1])


def check_name(name):
    if not 1 <= len(name) <= MOST_SIGNS:
        raise NoChart(f"a name without signs, or with too many: {name!r}")


def check_price(price):
    if not 1 <= price <= MOST_PRICE:
        raise NoChart(f"a price out of bounds: {price}")


def check_table(many, name, table):
    if len(table) != many:
        raise NoChart(f"the table of {name!r} has not as many entries as there are worlds")


def check_entry(many, name, entry):
    if list(entry) != sorted(set(entry)):
        raise NoChart(f"an entry of {name!r} does not rise")
    if not all([0 <= world < many for world in entry]):
        raise NoChart(f"an entry of {name!r} has a number that is no world")


def read_deeds(many, deeds):
    # Entries are kept as sets: what a deed makes of a set of worlds is put together from them.
    found = {}
    for deed in deeds:
        name = deed[0]
        table = deed[2]
        check_table(many, name, table)
        for entry in table:
            check_entry(many, name, entry)
        found[name] = tuple([set_of(entry) for entry in table])
    return found


def read_looks(many, looks):
    found = {}
    for look in looks:
        check_table(many, look[0], look[2])
        found[look[0]] = tuple(look[2])
    return found


def parted(answers):
    found = {}
    for world, answer in enumerate(answers):
        if answer is not None:
            found[answer] = found.get(answer, 0) | set_of([world])
    return tuple(sorted(found.items()))


def doable_sets(outs, answers):
    found = {}
    for name, sets in outs.items():
        found[name] = set_of([world for world, some in enumerate(sets) if some != 0])
    for name, told in answers.items():
        found[name] = set_of([world for world, answer in enumerate(told) if answer is not None])
    return found


class Chart:
    def __init__(self, many, deeds, looks):
        check_many(many)
        check_steps(deeds, looks)
        self.many = many
        self.prices = dict([(step[0], step[1]) for step in list(deeds) + list(looks)])
        self.told_outs = read_deeds(many, deeds)
        self.told_answers = read_looks(many, looks)
        # These say nothing new: they spare whoever takes many steps a walk through a table at each.
        self.told_parts = dict([(name, parted(answers)) for name, answers in self.told_answers.items()])
        self.told_doable = doable_sets(self.told_outs, self.told_answers)

    def size(self):
        return self.many

    def deed_names(self):
        return list(self.told_outs)

    def look_names(self):
        return list(self.told_answers)

    def price_of(self, name):
        self.check_step(name)
        return self.prices[name]

    def outs(self, name, world):
        return worlds_of(self.out_sets(name)[world])

    def answer_of(self, name, world):
        self.check_look(name)
        return self.told_answers[name][world]

    # These three are no part of the interface: they tell whole sets to whoever does steps in sets of worlds.
    def out_sets(self, name):
        self.check_deed(name)
        return self.told_outs[name]

    def answer_sets(self, name):
        self.check_look(name)
        return self.told_parts[name]

    def doable(self, name):
        self.check_step(name)
        return self.told_doable[name]

    def check_deed(self, name):
        if name not in self.told_outs:
            raise NoName(f"no deed has the name {name!r}")

    def check_look(self, name):
        if name not in self.told_answers:
            raise NoName(f"no look has the name {name!r}")

    def check_step(self, name):
        if name not in self.prices:
            raise NoName(f"no deed and no look has the name {name!r}")
