"""Facts and errands, told as texts (point 12)."""

from grope.errors import NoFact
from grope.worlds import heap_in, lid_on

LIDS = ("open", "shut", "locked")


def holds(room, fact, world):
    # All of it is read first: a part that holds doesn't excuse a wrong one behind it.
    parts = read_fact(room, fact)
    return any([part_holds(room, part, world) for part in parts])


def read_errand(room, text):
    facts = text.split(" while ")
    if len(facts) > 2:
        raise NoFact(f"an errand with more than one while: {text!r}")
    for fact in facts:
        read_fact(room, fact)
    return (facts[0], facts[1] if len(facts) == 2 else None)


def read_fact(room, text):
    return [read_part(room, part) for part in text.split(" or ")]


def read_part(room, text):
    return [read_term(room, term) for term in text.split(" and ")]


def read_term(room, text):
    # A term is told as a pair: whether its atom is to hold, and the atom's words.
    words = text.split(" ")
    wanted = words[0] != "not"
    atom = words if wanted else words[1:]
    if not is_atom(room, atom):
        raise NoFact(f"no atom, nor one behind not: {text!r}")
    return (wanted, atom)


def is_atom(room, words):
    if words == ["free"]:
        return True
    if len(words) == 2:
        return is_short_atom(room, words[0], words[1])
    if len(words) == 3 and words[0] in room.things():
        return is_spot(room, words[1], words[2])
    return False


def is_short_atom(room, name, word):
    if word in ("top", "held"):
        return name in room.things()
    return (word in LIDS or word == "bare") and name in room.places()


def is_spot(room, word, name):
    if word == "in":
        return name in room.places()
    return word == "on" and name in room.things()


def part_holds(room, part, world):
    return all([atom_holds(room, term[1], world) == term[0] for term in part])


def atom_holds(room, atom, world):
    if atom == ["free"]:
        return world[0] is None
    # No thing is called like a place, so the first name tells what the atom is about.
    if atom[0] in room.things():
        return holds_of_thing(room, atom, world)
    if atom[1] == "bare":
        return len(heap_in(room, world, atom[0])) == 0
    return lid_on(room, world, atom[0]) == atom[1]


def holds_of_thing(room, atom, world):
    thing = atom[0]
    if atom[1] == "held":
        return world[0] == thing
    if atom[1] == "top":
        return any([heap[-1:] == (thing,) for heap in world[1]])
    if atom[1] == "in":
        return thing in heap_in(room, world, atom[2])
    return any([lies_on(heap, thing, atom[2]) for heap in world[1]])


def lies_on(heap, thing, under):
    return (under, thing) in list(zip(heap, heap[1:]))
