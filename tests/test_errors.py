"""Point 3: the classes of the refusals, and the fields of four of them."""

import unittest

from grope import errors

NAMES = [
    "NoRoom", "NoWorld", "NoDeed", "NoLook", "NoFact", "NoChart", "NoName", "TooMany", "Cannot", "NoStory", "NoPlan",
    "Astray", "Hopeless", "CanBeDone", "PlayOver", "NoRows", "Trapped", "Endless", "NoMend", "NoRow", "NotYet",
]
OF_FIELDS = {
    "Cannot": ("take bin", 3),
    "Astray": (2, 5, "goal"),
    "Trapped": ([(0, 1), (2, 3)],),
    "Endless": ([(4, 0)],),
}


def made(name):
    return getattr(errors, name)(*OF_FIELDS.get(name, ("some words",)))


class Classes(unittest.TestCase):
    def test_any_refusal_stands_right_under_value_error(self):
        self.assertEqual(errors.GropeError.__bases__, (ValueError,))

    def test_there_are_twenty_one(self):
        self.assertEqual(len(set(NAMES)), 21)

    def test_each_stands_right_under_grope_error(self):
        for name in NAMES:
            with self.subTest(name=name):
                self.assertEqual(getattr(errors, name).__bases__, (errors.GropeError,))

    def test_none_stands_under_another(self):
        for one in NAMES:
            for other in NAMES:
                with self.subTest(one=one, other=other):
                    under = issubclass(getattr(errors, one), getattr(errors, other))
                    self.assertEqual(under, one == other)

    def test_each_bears_its_name(self):
        for name in NAMES + ["GropeError"]:
            with self.subTest(name=name):
                self.assertEqual(getattr(errors, name).__name__, name)

    def test_each_is_raised_and_taken_as_any_refusal(self):
        for name in NAMES:
            with self.subTest(name=name):
                with self.assertRaises(errors.GropeError) as taken:
                    raise made(name)
                self.assertIs(taken.exception.__class__, getattr(errors, name))

    def test_those_of_a_text_say_it(self):
        for name in NAMES:
            if name not in OF_FIELDS:
                with self.subTest(name=name):
                    self.assertEqual(str(made(name)), "some words")


class Fields(unittest.TestCase):
    def test_cannot(self):
        error = errors.Cannot("take bin", 3)
        self.assertEqual((error.name, error.world), ("take bin", 3))

    def test_astray(self):
        error = errors.Astray(2, 5, "goal")
        self.assertEqual((error.row, error.world, error.why), (2, 5, "goal"))

    def test_trapped_and_endless(self):
        for name in ["Trapped", "Endless"]:
            with self.subTest(name=name):
                error = getattr(errors, name)([(0, 1), (2, 3)])
                self.assertEqual(error.pairs, [(0, 1), (2, 3)])

    def test_pairs_are_copied(self):
        for name in ["Trapped", "Endless"]:
            with self.subTest(name=name):
                pairs = [(0, 1), (2, 3)]
                error = getattr(errors, name)(pairs)
                words = str(error)
                pairs.append((9, 9))
                self.assertEqual(error.pairs, [(0, 1), (2, 3)])
                self.assertEqual(str(error), words)
                error.pairs.clear()
                self.assertEqual(pairs, [(0, 1), (2, 3), (9, 9)])

    def test_each_has_words(self):
        for name in OF_FIELDS:
            with self.subTest(name=name):
                self.assertNotEqual(str(made(name)), "")


if __name__ == "__main__":
    unittest.main()
