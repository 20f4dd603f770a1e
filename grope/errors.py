"""The refusals: each has a class of its own, right under GropeError."""


class GropeError(ValueError):
    pass


class NoRoom(GropeError):
    pass


class NoWorld(GropeError):
    pass


class NoDeed(GropeError):
    pass


class NoLook(GropeError):
    pass


class NoFact(GropeError):
    pass


class NoChart(GropeError):
    pass


class NoName(GropeError):
    pass


class TooMany(GropeError):
    pass


class Cannot(GropeError):
    def __init__(self, name, world):
        GropeError.__init__(self, f"{name!r} cannot be done in world {world}")
        self.name = name
        self.world = world


class NoStory(GropeError):
    pass


class NoPlan(GropeError):
    pass


class Astray(GropeError):
    def __init__(self, row, world, why):
        GropeError.__init__(self, f"world {world} is wrong at row {row}: {why}")
        self.row = row
        self.world = world
        self.why = why


class Hopeless(GropeError):
    pass


class CanBeDone(GropeError):
    pass


class PlayOver(GropeError):
    pass


class NoRows(GropeError):
    pass


class Trapped(GropeError):
    def __init__(self, pairs):
        GropeError.__init__(self, "from some pairs no stop may come")
        # A copy, as whoever raised the error may go on changing the list.
        self.pairs = list(pairs)


class Endless(GropeError):
    def __init__(self, pairs):
        GropeError.__init__(self, "the steps may go on for ever")
        # A copy, as whoever raised the error may go on changing the list.
        self.pairs = list(pairs)


class NoMend(GropeError):
    pass


class NoRow(GropeError):
    pass


class NotYet(GropeError):
    pass
