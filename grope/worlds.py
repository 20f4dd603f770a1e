"""Worlds of a room, tuples (hand, heaps, lids), and their texts (points 7 to 9)."""

from grope.errors import NoWorld


def show_world(room, world):
    hand = "-" if world[0] is None else world[0]
    parts = [f"hand {hand}"]
    for place, heap, lid in zip(room.places(), world[1], world[2]):
        parts.append(" ".join([place, lid] + list(heap)))
    return "; ".join(parts)


def read_world(room, text):
    world = guess_world(room, text)
    # Showing it again finds each wrong blank, word or order that the guess passed over.
    if not is_world(room, world) or show_world(room, world) != text:
        raise NoWorld(f"the text of no world of the room: {text!r}")
    return world


def guess_world(room, text):
    parts = [part.split(" ") for part in text.split("; ")]
    if len(parts) != len(room.places()) + 1:
        raise NoWorld(f"too many parts, or too few: {text!r}")
    for words in parts:
        if len(words) < 2:
            raise NoWorld(f"a part has too few words: {text!r}")
    held = parts[0][1]
    hand = None if held == "-" else held
    heaps = tuple([tuple(words[2:]) for words in parts[1:]])
    lids = tuple([words[1] for words in parts[1:]])
    return (hand, heaps, lids)


def is_world(room, world):
    found = [] if world[0] is None else [world[0]]
    for heap in world[1]:
        found.extend(heap)
    if sorted(found) != sorted(room.things()):
        return False
    return all([lid_fits(room, place, lid) for place, lid in zip(room.places(), world[2])])


def lid_fits(room, place, lid):
    if lid == "open":
        return True
    if lid == "shut":
        return room.lidded(place)
    return lid == "locked" and room.key_of(place) is not None


def heap_in(room, world, place):
    return world[1][room.places().index(place)]


def lid_on(room, world, place):
    return world[2][room.places().index(place)]


def changes(one, other):
    hands = 0 if one[0] == other[0] else 1
    return hands + count_unlike(one[1], other[1]) + count_unlike(one[2], other[2])


def count_unlike(ones, others):
    return len([mine for mine, theirs in zip(ones, others) if mine != theirs])
