"""Point 13: sets of worlds as whole numbers; point 2 as far as it speaks of sets."""

import itertools
import unittest

from grope.sets import least_of, set_of, size_of, within, without, worlds_of

# Sets beside the rising lists of their worlds, written by hand.
BY_HAND = [
    (0, []),
    (1, [0]),
    (2, [1]),
    (3, [0, 1]),
    (4, [2]),
    (13, [0, 2, 3]),
    (2 ** 31, [31]),
    (2 ** 32 + 1, [0, 32]),
    (2 ** 63 + 2 ** 62, [62, 63]),
    (2 ** 64 + 2 ** 63 + 8, [3, 63, 64]),
    (2 ** 199, [199]),
    (2 ** 199 + 2 ** 198 + 1, [0, 198, 199]),
    (2 ** 200 - 1, list(range(200))),
]

LISTS = [
    [], [0], [1], [0, 1], [0, 2, 3], [2, 3], [199], [0, 199], [5, 63, 64, 65, 127, 128, 198, 199], [63, 64],
    list(range(200)), list(range(0, 200, 2)), list(range(1, 200, 2)), list(range(0, 200, 7)), list(range(100)),
    list(range(100, 200)),
]


class SetsTest(unittest.TestCase):
    def whole(self, found, told):
        self.assertEqual(found, told)
        self.assertIs(found.__class__, int)


class SetOf(SetsTest):
    def test_by_hand(self):
        for some, worlds in BY_HAND:
            with self.subTest(worlds=worlds):
                self.whole(set_of(worlds), some)

    def test_in_any_order(self):
        for order in itertools.permutations([0, 3, 64, 199]):
            self.whole(set_of(list(order)), 2 ** 199 + 2 ** 64 + 9)
        for some, worlds in BY_HAND:
            self.whole(set_of(worlds[::-1]), some)

    def test_worlds_told_more_than_once(self):
        self.whole(set_of([0, 0]), 1)
        self.whole(set_of([3, 3, 3]), 8)
        self.whole(set_of([2, 0, 2, 0, 1, 2]), 7)
        self.whole(set_of([199, 5, 199, 5, 199]), 2 ** 199 + 32)
        for some, worlds in BY_HAND:
            self.whole(set_of(worlds + worlds[::-1] + worlds), some)

    def test_no_world(self):
        self.whole(set_of([]), 0)

    def test_the_list_stays(self):
        worlds = [7, 199, 0, 7, 3]
        some = set_of(worlds)
        self.assertEqual(worlds, [7, 199, 0, 7, 3])
        worlds.append(1)
        self.assertEqual(worlds_of(some), [0, 3, 7, 199])


class WorldsOf(SetsTest):
    def test_by_hand(self):
        for some, worlds in BY_HAND:
            with self.subTest(some=some):
                found = worlds_of(some)
                self.assertEqual(found, worlds)
                self.assertIs(found.__class__, list)
                self.assertLessEqual({world.__class__ for world in found}, {int})

    def test_each_small_set(self):
        for some in range(1024):
            self.assertEqual(worlds_of(some), [k for k in range(10) if some // 2 ** k % 2 == 1])

    def test_back_and_forth(self):
        for worlds in LISTS:
            self.assertEqual(worlds_of(set_of(worlds)), worlds)

    def test_a_told_list_is_the_askers_own(self):
        found = worlds_of(13)
        found.append(7)
        found[0] = 9
        self.assertEqual(worlds_of(13), [0, 2, 3])
        empty = worlds_of(0)
        empty.append(1)
        self.assertEqual(worlds_of(0), [])


class SizeAndLeast(SetsTest):
    def test_how_many(self):
        for some, worlds in BY_HAND:
            with self.subTest(some=some):
                self.whole(size_of(some), len(worlds))

    def test_the_least(self):
        for some, worlds in BY_HAND[1:]:
            with self.subTest(some=some):
                self.whole(least_of(some), worlds[0])

    def test_the_least_of_the_empty_set(self):
        self.assertIsNone(least_of(0))

    def test_each_world_by_itself(self):
        for world in range(200):
            some = set_of([world])
            self.whole(some, 2 ** world)
            self.whole(size_of(some), 1)
            self.whole(least_of(some), world)
            self.assertEqual(worlds_of(some), [world])


class WithinAndWithout(SetsTest):
    def check(self, one, other, is_within, rest):
        with self.subTest(one=one, other=other):
            self.assertIs(within(set_of(one), set_of(other)), is_within)
            self.whole(without(set_of(one), set_of(other)), set_of(rest))

    def test_one_holds_the_other(self):
        self.check([2, 3], [0, 2, 3, 199], True, [])
        self.check([0, 2, 3, 199], [2, 3], False, [0, 199])
        self.check([0], [0, 1], True, [])
        self.check([0, 1], [0], False, [1])
        self.check([0, 1], [1], False, [0])
        self.check([199], list(range(200)), True, [])
        self.check(list(range(200)), [199], False, list(range(199)))

    def test_alike(self):
        self.check([0, 2, 3], [0, 2, 3], True, [])
        self.check([199], [199], True, [])

    def test_they_share_some(self):
        self.check([0, 2, 3], [2, 4], False, [0, 3])
        self.check([2, 4], [0, 2, 3], False, [4])
        self.check([5, 199], [6, 199], False, [5])

    def test_they_share_none(self):
        self.check([0, 2], [1, 3], False, [0, 2])
        self.check([1, 3], [0, 2], False, [1, 3])
        self.check([199], [198], False, [199])
        self.check([0], [199], False, [0])

    def test_the_empty_set(self):
        self.check([], [], True, [])
        self.check([], [0, 199], True, [])
        self.check([0, 199], [], False, [0, 199])

    def test_as_pythons_own_sets(self):
        for one in LISTS:
            for other in LISTS:
                self.check(one, other, set(one) <= set(other), sorted(set(one) - set(other)))

    def test_each_pair_of_small_sets(self):
        for one in range(32):
            for other in range(32):
                mine, theirs = set(worlds_of(one)), set(worlds_of(other))
                self.check(sorted(mine), sorted(theirs), mine <= theirs, sorted(mine - theirs))


if __name__ == "__main__":
    unittest.main()
