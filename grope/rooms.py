"""Rooms: the places and things that lines tell (points 5 and 6)."""

from grope.errors import NoName, NoRoom

LETTERS = "abcdefghijklmnopqrstuvwxyz"
MOST_LETTERS = 8
NO_NAMES = (
    "and", "or", "not", "while", "in", "on", "top", "held", "open", "shut", "locked", "bare", "free", "hand",
)

MOST_PLACES = 6
MOST_THINGS = 6

# How many words a line may have, by its first one.
FORMS = (("place", 2), ("box", 2), ("box", 3), ("thing", 3))


def is_name(text):
    if text == "" or len(text) > MOST_LETTERS or text in NO_NAMES:
        return False
    return all([sign in LETTERS for sign in text])


def read_line(line):
    # A blank too many leaves an empty word, and an empty word is no name.
    words = line.split(" ")
    if (words[0], len(words)) not in FORMS:
        raise NoRoom(f"no line of a room: {line!r}")
    for word in words[1:]:
        if not is_name(word):
            raise NoRoom(f"{word!r} is no name, in the line {line!r}")
    return words


def read_rows(lines):
    rows = [read_line(line) for line in lines]
    names = [words[1] for words in rows]
    if len(set(names)) < len(names):
        raise NoRoom("a name is told twice")
    return rows


def read_things(rows):
    shapes = {}
    for words in rows:
        if words[0] == "thing":
            shapes[words[1]] = words[2]
    if len(shapes) > MOST_THINGS:
        raise NoRoom("there are too many things")
    return shapes


def read_places(rows):
    places = {}
    for words in rows:
        if words[0] == "place":
            places[words[1]] = (False, None)
        if words[0] == "box":
            if len(places) == 0:
                raise NoRoom("the first place has a lid, so there is no floor")
            places[words[1]] = (True, words[2] if len(words) == 3 else None)
    if len(places) == 0 or len(places) > MOST_PLACES:
        raise NoRoom("there are no places, or too many")
    return places


def check_keys(places, shapes):
    # Only when all lines are read: a key may be told behind its box.
    for lid in places.values():
        key = lid[1]
        if key is not None and key not in shapes:
            raise NoRoom(f"the key {key!r} is no thing")


class Room:
    def __init__(self, lines):
        rows = read_rows(lines)
        places = read_places(rows)
        shapes = read_things(rows)
        check_keys(places, shapes)
        self.told_places = places
        self.told_shapes = shapes

    def places(self):
        return list(self.told_places)

    def things(self):
        return list(self.told_shapes)

    def lid_of(self, place):
        if place not in self.told_places:
            raise NoName(f"no place has the name {place!r}")
        return self.told_places[place]

    def lidded(self, place):
        return self.lid_of(place)[0]

    def key_of(self, place):
        return self.lid_of(place)[1]

    def shape_of(self, thing):
        if thing not in self.told_shapes:
            raise NoName(f"no thing has the name {thing!r}")
        return self.told_shapes[thing]
