"""Sets of worlds, each a whole number whose bits tell the worlds that are in it (point 13)."""


def set_of(worlds):
    some = 0
    for world in worlds:
        some = some | (1 << world)
    return some


def worlds_of(some):
    return [world for world in range(some.bit_length()) if ((some >> world) & 1) == 1]


def size_of(some):
    return len(worlds_of(some))


def least_of(some):
    worlds = worlds_of(some)
    return worlds[0] if len(worlds) > 0 else None


def within(one, other):
    return (one & other) == one


def without(one, other):
    return one ^ (one & other)
