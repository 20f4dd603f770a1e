"""Deeds: what the hand does in a room, and the worlds that may come of it (point 10)."""

from grope.errors import NoDeed
from grope.worlds import heap_in, lid_on

# How many places each deed's line names.
PLACES = {
    "take": 1, "put": 1, "toss": 1, "open": 1, "shut": 1, "lock": 1, "unlock": 1, "tip": 2, "shake": 1,
}

# How the lid is before each of these deeds, and behind it.
LIDS = {
    "open": ("shut", "open"), "shut": ("open", "shut"), "lock": ("shut", "locked"), "unlock": ("locked", "shut"),
}


def turns(room, line, world):
    words = read_deed(room, line)
    if words[0] == "tip":
        return tip(room, world, words[1], words[2])
    if words[0] in LIDS:
        return move_lid(room, world, words[0], words[1])
    return move_things(room, world, words[0], words[1])


def read_deed(room, line):
    # A blank too many leaves an empty word, and no place has an empty name.
    words = line.split(" ")
    places = words[1:]
    if PLACES.get(words[0]) != len(places):
        raise NoDeed(f"no deed: {line!r}")
    if not all([place in room.places() for place in places]):
        raise NoDeed(f"a deed with what is no place of the room: {line!r}")
    if len(set(places)) < len(places):
        raise NoDeed(f"a deed with one place twice: {line!r}")
    return words


def move_things(room, world, word, place):
    if word == "take":
        return take(room, world, place)
    if word == "put":
        return put(room, world, place)
    if word == "toss":
        return toss(room, world, place)
    return shake(room, world, place)


def take(room, world, place):
    heap = heap_in(room, world, place)
    if not is_free(world) or not is_open(room, world, place) or len(heap) == 0:
        return []
    return [(heap[-1], changed(room, world[1], place, heap[:-1]), world[2])]


def put(room, world, place):
    return [laid(room, world, place)] if can_put(room, world, place) else []


def toss(room, world, place):
    if not can_put(room, world, place):
        return []
    floor = room.places()[0]
    # On the floor both ways are the same world, which is told once.
    ends = [place] if place == floor else [place, floor]
    return [laid(room, world, end) for end in ends]


def shake(room, world, place):
    heap = heap_in(room, world, place)
    if not is_free(world) or is_open(room, world, place) or len(heap) < 2:
        return []
    shaken = heap[:-2] + (heap[-1], heap[-2])
    return [world, (None, changed(room, world[1], place, shaken), world[2])]


def tip(room, world, place, other):
    heap = heap_in(room, world, place)
    if not is_free(world) or not is_open(room, world, place) or not is_open(room, world, other) or len(heap) == 0:
        return []
    # The highest goes first, so the heap comes to lie upside down.
    filled = heap_in(room, world, other) + tuple(reversed(heap))
    heaps = changed(room, changed(room, world[1], place, ()), other, filled)
    return [(None, heaps, world[2])]


def move_lid(room, world, word, place):
    before = LIDS[word][0]
    behind = LIDS[word][1]
    if lid_on(room, world, place) != before or not hand_fits(room, world, word, place):
        return []
    return [(world[0], world[1], changed(room, world[2], place, behind))]


def hand_fits(room, world, word, place):
    if word in ("lock", "unlock"):
        # A free hand holds no key, not even that of a place without a lock: there both are None.
        return not is_free(world) and world[0] == room.key_of(place)
    return is_free(world) and room.lidded(place)


def is_free(world):
    return world[0] is None


def is_open(room, world, place):
    return lid_on(room, world, place) == "open"


def can_put(room, world, place):
    return not is_free(world) and is_open(room, world, place)


def laid(room, world, place):
    heap = heap_in(room, world, place) + (world[0],)
    return (None, changed(room, world[1], place, heap), world[2])


def changed(room, entries, place, entry):
    spot = room.places().index(place)
    return entries[:spot] + (entry,) + entries[spot + 1:]
