"""Looks: what the hand can find out in a room, each telling one fact (point 11)."""

from grope.errors import NoLook
from grope.worlds import heap_in, lid_on

WORDS = ("feel", "try", "heft")


def looked(room, line, world):
    words = read_look(room, line)
    if words[1] == "hand":
        return shape_told(room, world[0])
    if world[0] is not None:
        return None
    if words[0] == "feel":
        return feel(room, world, words[1])
    if words[0] == "try":
        return try_lid(room, world, words[1])
    return heft(room, world, words[1])


def read_look(room, line):
    # A blank too many leaves an empty word, and no place has an empty name.
    words = line.split(" ")
    if len(words) != 2 or not is_look(room, words[0], words[1]):
        raise NoLook(f"no look: {line!r}")
    return words


def is_look(room, word, name):
    if name == "hand":
        return word == "feel"
    return word in WORDS and name in room.places()


def feel(room, world, place):
    if lid_on(room, world, place) != "open":
        return None
    heap = heap_in(room, world, place)
    return shape_told(room, heap[-1] if len(heap) > 0 else None)


def try_lid(room, world, place):
    return lid_on(room, world, place) if room.lidded(place) else None


def heft(room, world, place):
    if lid_on(room, world, place) == "open":
        return None
    return "light" if len(heap_in(room, world, place)) == 0 else "heavy"


def shape_told(room, thing):
    return "-" if thing is None else room.shape_of(thing)
