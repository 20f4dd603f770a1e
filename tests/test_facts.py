"""Point 12: facts and errands as texts; points 2 and 3 as far as they speak of these."""

import itertools
import unittest

from grope.errors import NoFact
from grope.facts import holds, read_errand
from grope.rooms import Room
from grope.worlds import read_world, show_world
from helper import ROOM, SMALL, WIDE, WIDE_LINES, all_worlds


def all_atoms(room):
    places, things = room.places(), room.things()
    atoms = ["free"]
    atoms += [f"{thing} {word}" for thing in things for word in ["top", "held"]]
    atoms += [f"{place} {word}" for place in places for word in ["open", "shut", "locked", "bare"]]
    atoms += [f"{thing} in {place}" for thing in things for place in places]
    atoms += [f"{thing} on {other}" for thing in things for other in things]
    return atoms


def atom_is_so(room, atom, world):
    """Whether an atom holds, made straight from point 12, by where each thing lies and how high."""
    spots = {}
    for place, heap in zip(room.places(), world[1]):
        for height, thing in enumerate(heap):
            spots[thing] = (place, height, len(heap) - 1)
    words = atom.split(" ")
    spot = spots.get(words[0])
    if atom == "free":
        return len(spots) == len(room.things())
    if words[1] == "held":
        return spot is None
    if words[1] == "top":
        return spot is not None and spot[1] == spot[2]
    if words[1] == "in":
        return spot is not None and spot[0] == words[2]
    if words[1] == "on":
        under = spots.get(words[2])
        return spot is not None and under is not None and (under[0], under[1] + 1) == spot[:2]
    if words[1] == "bare":
        return words[0] not in [other[0] for other in spots.values()]
    return dict(zip(room.places(), world[2]))[words[0]] == words[1]


def fact_is_so(room, parts, world):
    """Parts are lists of terms, and these are pairs of a truth and an atom."""
    return any(all(atom_is_so(room, atom, world) == truth for truth, atom in part) for part in parts)


def fact_of(parts):
    return " or ".join(" and ".join(("" if truth else "not ") + atom for truth, atom in part) for part in parts)


class FactsTest(unittest.TestCase):
    text = "hand -; floor open ball key coin; safe locked; bin shut cube; shelf open; chest open"

    def told(self, truth, fact, text=None, room=WIDE):
        text = self.text if text is None else text
        with self.subTest(fact=fact, text=text):
            world = read_world(room, text)
            self.assertIs(holds(room, fact, world), truth)
            self.assertEqual(show_world(room, world), text)

    def atom(self, truth, atom, text=None, room=WIDE):
        self.told(truth, atom, text, room)
        self.told(not truth, f"not {atom}", text, room)


class Atoms(FactsTest):
    held = "hand key; floor open ball coin; safe locked; bin shut cube; shelf open; chest open"

    def test_in(self):
        self.atom(True, "ball in floor")
        self.atom(True, "key in floor")
        self.atom(True, "coin in floor")
        self.atom(True, "cube in bin")
        self.atom(False, "cube in floor")
        self.atom(False, "ball in bin")
        self.atom(False, "ball in shelf")
        for place in WIDE.places():
            self.atom(False, f"key in {place}", self.held)

    def test_on(self):
        self.atom(True, "key on ball")
        self.atom(True, "coin on key")
        self.atom(False, "ball on key")
        self.atom(False, "coin on ball")
        self.atom(False, "ball on coin")
        self.atom(False, "cube on ball")
        self.atom(False, "cube on coin")
        self.atom(True, "coin on ball", self.held)
        self.atom(False, "key on ball", self.held)
        self.atom(False, "coin on key", self.held)

    def test_on_itself(self):
        for thing in WIDE.things():
            self.atom(False, f"{thing} on {thing}")
            self.atom(False, f"{thing} on {thing}", self.held)

    def test_on_a_thing_in_another_heap(self):
        text = "hand -; floor open ball; safe locked key; bin shut cube; shelf open coin; chest open"
        for one, other in itertools.product(WIDE.things(), repeat=2):
            self.atom(False, f"{one} on {other}", text)

    def test_on_in_a_locked_box(self):
        text = "hand -; floor open; safe locked key cube; bin shut; shelf open coin ball; chest open"
        self.atom(True, "cube on key", text)
        self.atom(True, "ball on coin", text)
        self.atom(False, "key on cube", text)
        self.atom(False, "coin on cube", text)

    def test_top(self):
        self.atom(True, "coin top")
        self.atom(True, "cube top")
        self.atom(False, "ball top")
        self.atom(False, "key top")
        self.atom(False, "key top", self.held)

    def test_held(self):
        self.atom(True, "key held", self.held)
        self.atom(False, "ball held", self.held)
        for thing in WIDE.things():
            self.atom(False, f"{thing} held")

    def test_lids(self):
        lids = {"floor": "open", "safe": "locked", "bin": "shut", "shelf": "open", "chest": "open"}
        for place in lids:
            for word in ["open", "shut", "locked"]:
                self.atom(lids[place] == word, f"{place} {word}")
        text = "hand -; floor open ball key coin; safe shut; bin open cube; shelf open; chest locked"
        self.atom(True, "safe shut", text)
        self.atom(True, "bin open", text)
        self.atom(True, "chest locked", text)
        self.atom(False, "chest shut", text)

    def test_bare(self):
        self.atom(True, "safe bare")
        self.atom(True, "shelf bare")
        self.atom(True, "chest bare")
        self.atom(False, "floor bare")
        self.atom(False, "bin bare")

    def test_free(self):
        self.atom(True, "free")
        self.atom(False, "free", self.held)

    def test_a_thing_called_none(self):
        room = Room(["place a", "thing none s"])
        self.atom(False, "free", "hand none; a open", room)
        self.atom(True, "none held", "hand none; a open", room)
        self.atom(True, "free", "hand -; a open none", room)
        self.atom(False, "none held", "hand -; a open none", room)

    def test_each_atom_in_each_world(self):
        for room in SMALL + [ROOM]:
            for world in all_worlds(room):
                for atom in all_atoms(room):
                    truth = atom_is_so(room, atom, world)
                    self.assertIs(holds(room, atom, world), truth, (atom, world))
                    self.assertIs(holds(room, f"not {atom}", world), not truth, (atom, world))

    def test_each_atom_in_some_worlds_of_a_wide_room(self):
        for world in all_worlds(WIDE)[::211]:
            for atom in all_atoms(WIDE):
                self.assertIs(holds(WIDE, atom, world), atom_is_so(WIDE, atom, world), (atom, world))


class Facts(FactsTest):
    def test_terms_with_and(self):
        self.told(True, "free and coin top")
        self.told(True, "free and coin top and bin shut and not key held")
        self.told(False, "free and key held")
        self.told(False, "key held and free")
        self.told(False, "free and not coin top")
        self.told(False, "free and coin top and not bin shut")

    def test_parts_with_or(self):
        self.told(True, "free or key held")
        self.told(True, "key held or free")
        self.told(True, "key held or ball on key or bin shut")
        self.told(False, "key held or ball on key")
        self.told(False, "not free or key held or not coin top")

    def test_and_binds_more_than_or(self):
        self.told(True, "free or key held and ball on key")
        self.told(True, "key held and ball on key or free")
        self.told(False, "key held or free and ball on key")
        self.told(False, "ball on key and free or key held")
        self.told(True, "key held and free or free and not ball on key or chest locked")

    def test_not_goes_with_its_own_atom_alone(self):
        self.told(True, "not key held and free")
        self.told(True, "not key held or key held")
        self.told(False, "not free and key held")
        self.told(True, "not free or free")

    def test_one_atom_several_times(self):
        self.told(True, "free and free")
        self.told(True, "free or free")
        self.told(False, "free and not free")
        self.told(True, "free and not free or free")

    def test_parts_of_several_terms(self):
        terms = [(truth, atom) for atom in ["free", "key held", "coin top"] for truth in [True, False]]
        world = read_world(WIDE, self.text)
        for first in itertools.product(terms, repeat=2):
            for second in itertools.product(terms, repeat=2):
                for parts in [[first], [first, second], [first, second[:1]], [first[:1], second], [first + second]]:
                    truth = fact_is_so(WIDE, parts, world)
                    self.assertIs(holds(WIDE, fact_of(parts), world), truth, fact_of(parts))

    def test_long_facts_in_many_worlds(self):
        atoms = all_atoms(ROOM)
        worlds = all_worlds(ROOM)
        found = set()
        for k in range(len(worlds)):
            terms = [((k + j) % 3 != 0, atoms[(k * j + 7 * j + k) % len(atoms)]) for j in range(9)]
            parts = [terms[:2], terms[2:3], terms[3:6], terms[6:]]
            truth = fact_is_so(ROOM, parts, worlds[k])
            self.assertIs(holds(ROOM, fact_of(parts), worlds[k]), truth, fact_of(parts))
            found.add(truth)
        self.assertEqual(found, {True, False})

    def test_the_longest(self):
        for truth, fact in [
            (True, "free" + " or free" * 37),
            (True, "cube on ball" + " or key held" * 23 + " or bin shut"),
            (False, "bin shut" + " and free" * 31 + " and not free"),
        ]:
            self.assertEqual(len(fact), 300)
            self.told(truth, fact)

    def test_names_that_are_like_the_words(self):
        room = Room(["place orand", "box ando ina", "thing noton s", "thing ina s", "thing whiles s"])
        text = "hand whiles; orand open noton ina; ando locked"
        self.atom(True, "noton in orand", text, room)
        self.atom(True, "ina on noton", text, room)
        self.atom(True, "whiles held", text, room)
        self.told(True, "ando open or not noton top and orand open and ando locked", text, room)
        self.assertEqual(
            read_errand(room, "whiles held or ina top while not noton in ando"),
            ("whiles held or ina top", "not noton in ando"),
        )

    def test_the_room_stays(self):
        room = Room(WIDE_LINES)
        world = read_world(WIDE, self.text)
        for atom in all_atoms(WIDE):
            holds(room, atom, world)
            read_errand(room, f"{atom} while not {atom}")
        self.assertEqual((room.places(), room.things()), (WIDE.places(), WIDE.things()))


class Errands(unittest.TestCase):
    def told(self, text, pair):
        with self.subTest(text=text):
            found = read_errand(WIDE, text)
            self.assertEqual(found, pair)
            self.assertIs(found.__class__, tuple)

    def test_of_one_fact(self):
        self.told("free", ("free", None))
        self.told("not ball in bin", ("not ball in bin", None))
        self.told("coin top and cube on key or bin bare", ("coin top and cube on key or bin bare", None))

    def test_of_two_facts(self):
        self.told("free while free", ("free", "free"))
        self.told("coin in safe while not key held", ("coin in safe", "not key held"))
        self.told(
            "coin top and safe locked or bin bare while floor open and not free or key on key",
            ("coin top and safe locked or bin bare", "floor open and not free or key on key"),
        )

    def test_of_each_atom(self):
        for atom in all_atoms(WIDE):
            self.told(atom, (atom, None))
            self.told(f"not {atom}", (f"not {atom}", None))
            self.told(f"{atom} while free", (atom, "free"))
            self.told(f"free while not {atom}", ("free", f"not {atom}"))

    def test_the_longest(self):
        one = "free" + " or free" * 16
        other = "bin bare" + " and free" * 17
        self.assertEqual(len(f"{one} while {other}"), 300)
        self.told(f"{one} while {other}", (one, other))

    def test_the_facts_can_be_held_against_worlds(self):
        goal, keep = read_errand(ROOM, "coin in chest and chest locked while not ball held")
        world = read_world(ROOM, "hand key; floor open ball; bin shut; chest locked coin")
        self.assertIs(holds(ROOM, goal, world), True)
        self.assertIs(holds(ROOM, keep, world), True)
        world = read_world(ROOM, "hand ball; floor open key; bin shut; chest locked coin")
        self.assertIs(holds(ROOM, keep, world), False)


class TextsRefused(unittest.TestCase):
    WORLDS = [
        read_world(ROOM, text) for text in [
            "hand -; floor open ball key; bin shut coin; chest locked",
            "hand key; floor open coin; bin open; chest open ball",
        ]
    ]

    def refused(self, fact):
        for world in self.WORLDS:
            with self.subTest(fact=fact, world=world):
                with self.assertRaises(NoFact) as taken:
                    holds(ROOM, fact, world)
                self.assertIs(taken.exception.__class__, NoFact)
        self.no_errand(fact)
        self.no_errand(f"{fact} while free")
        self.no_errand(f"free while {fact}")
        self.no_errand(f"{fact} while {fact}")

    def no_errand(self, text):
        with self.subTest(text=text):
            with self.assertRaises(NoFact) as taken:
                read_errand(ROOM, text)
            self.assertIs(taken.exception.__class__, NoFact)

    def refused_among_others(self, term):
        self.refused(term)
        self.refused(f"not {term}")
        for word in ["and", "or"]:
            self.refused(f"{term} {word} free")
            self.refused(f"free {word} {term}")
            self.refused(f"not free {word} {term}")
            self.refused(f"free {word} {term} {word} not free")

    def test_no_sign_and_blanks_alone(self):
        for fact in ["", " ", "  ", "   "]:
            self.refused(fact)

    def test_a_word_less(self):
        for term in [
            "ball", "floor", "top", "held", "open", "shut", "locked", "bare", "in", "on", "ball in", "in floor",
            "ball floor", "ball on", "on key", "ball key", "floor floor", "hand",
        ]:
            self.refused_among_others(term)

    def test_a_word_more(self):
        for atom in ["free", "ball top", "ball held", "bin open", "bin shut", "bin locked", "bin bare", "ball in bin",
                     "ball on key"]:
            for word in ["free", "ball", "bin", "top", "open", "in", "is"]:
                self.refused_among_others(f"{atom} {word}")
                self.refused_among_others(f"{word} {atom}")

    def test_a_place_where_a_thing_is_due(self):
        for term in ["bin top", "floor held", "bin in floor", "floor in floor", "ball on bin", "bin on ball",
                     "floor on bin"]:
            self.refused_among_others(term)

    def test_a_thing_where_a_place_is_due(self):
        for term in ["ball open", "key shut", "coin locked", "ball bare", "ball in key", "ball in ball"]:
            self.refused_among_others(term)

    def test_a_foreign_name(self):
        for name in ["attic", "round", "flat", "hand", "-", "bal", "balls", "bi", "None", "free"]:
            for term in [
                f"{name} top", f"{name} held", f"{name} open", f"{name} shut", f"{name} locked", f"{name} bare",
                f"{name} in floor", f"ball in {name}", f"{name} on ball", f"ball on {name}",
            ]:
                self.refused_among_others(term)

    def test_another_word(self):
        for term in ["true", "ball under key", "ball at bin", "bin closed", "bin full", "ball low", "fre", "frees",
                     "hand free", "hand held", "bin free", "ball free", "ball not top", "ball not in bin",
                     "ball in not bin", "bin not open"]:
            self.refused_among_others(term)

    def test_not_twice_or_alone_or_behind(self):
        for fact in [
            "not", "not ", " not", "not not", "not not free", "not not ball top", "not not not free", "free not",
            "ball top not", "not and free", "free and not", "free or not", "not or free", "not not free and free",
            "free or not not free",
        ]:
            self.refused(fact)

    def test_and_and_or_at_an_end_or_with_nothing_between(self):
        for word in ["and", "or"]:
            for fact in [
                f"{word}", f"{word} ", f" {word}", f" {word} ", f"{word} free", f" {word} free", f"free {word}",
                f"free {word} ", f"free {word} {word} free", f"free {word}  {word} free", f"free {word} free {word}",
                f"{word} free {word} free", f"not {word} free", f"ball {word} key top", f"ball top {word} held",
            ]:
                self.refused(fact)
        for fact in ["free and or free", "free or and free", "free and  or free", "free or  and free", "and or"]:
            self.refused(fact)

    def test_parts_with_nothing_between(self):
        for fact in ["free free", "free ball top", "ball top bin open", "freeand free", "free andfree", "freeorfree",
                     "notfree", "free, free", "free; free", "free & free"]:
            self.refused(fact)

    def test_a_blank_more_or_less(self):
        for fact in ["free", "not free", "ball top", "ball in bin", "not ball on key and bin open or chest locked"]:
            for k in range(len(fact) + 1):
                self.refused(fact[:k] + " " + fact[k:])
                if fact[k:k + 1] == " ":
                    self.refused(fact[:k] + fact[k + 1:])
                    self.refused(fact[:k] + "\t" + fact[k + 1:])
            self.refused(fact + "\n")
            self.refused("\t" + fact)

    def test_a_great_letter(self):
        fact = "not ball on key and bin open or chest locked and free"
        for k in range(len(fact)):
            if fact[k] != " ":
                self.refused(fact[:k] + fact[k].upper() + fact[k + 1:])

    def test_brackets(self):
        for fact in ["(free)", "( free )", "free and (free or free)", "not (free)", "not (free and free)", "[free]",
                     "(ball top) or free", "free or (ball top", "free or ball top)", "()"]:
            self.refused(fact)

    def test_a_wrong_part_behind_or_ahead_of_one_that_settles_it(self):
        for world in all_worlds(ROOM)[::31]:
            for fact in ["free or not free or attic bare", "attic bare or free or not free",
                         "free and not free and ball bare", "ball bare and free and not free"]:
                with self.assertRaises(NoFact):
                    holds(ROOM, fact, world)

    def test_long_texts(self):
        self.refused("a" * 280)
        self.refused("free" + " and free" * 25 + " and ball")
        self.refused("not " * 60 + "free")

    def test_a_fact_with_while(self):
        for fact in ["free while free", "while", "while free", "free while", " while ", "not while", "ball while top"]:
            for world in self.WORLDS:
                with self.assertRaises(NoFact):
                    holds(ROOM, fact, world)

    def test_while_at_an_end(self):
        for text in ["while", " while", "while ", " while ", "while free", " while free", "free while", "free while ",
                     "not while free", "free while not", "free and while free", "free while and free",
                     "free or while free", "free while or free", "ball while top"]:
            self.no_errand(text)

    def test_while_twice(self):
        for text in [
            "free while free while free", "free while while free", "free while  while free", "while free while free",
            "free while free while", "while while", "while while while", "while free while", " while  while ",
        ]:
            self.no_errand(text)

    def test_a_blank_more_in_an_errand(self):
        text = "coin in chest while not ball held"
        self.assertEqual(read_errand(ROOM, text), ("coin in chest", "not ball held"))
        for k in range(len(text) + 1):
            self.no_errand(text[:k] + " " + text[k:])
            if k < len(text) and text[k] != " ":
                self.no_errand(text[:k] + text[k].upper() + text[k + 1:])

    def test_names_of_another_room(self):
        room = SMALL[2]
        for world in all_worlds(room)[::5]:
            for atom in all_atoms(ROOM)[1:]:
                with self.assertRaises(NoFact):
                    holds(room, atom, world)
        for atom in all_atoms(ROOM)[1:]:
            with self.assertRaises(NoFact):
                read_errand(room, atom)

    def test_a_room_without_things(self):
        room = SMALL[0]
        world = (None, ((),), ("open",))
        self.assertIs(holds(room, "free and a bare and a open and not a shut", world), True)
        for fact in ["a top", "a held", "a in a", "a on a", "u top", "u in a"]:
            with self.assertRaises(NoFact):
                holds(room, fact, world)


if __name__ == "__main__":
    unittest.main()
