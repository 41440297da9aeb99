"""[68]: what it brings to begin as another kind."""

import itertools
import random
import unittest

from comesthrough.held import can_be_held
from comesthrough.naming import gaining_kinds, levelling_words, nobody_gains, through_kinds
from comesthrough.newcomers import comes_through_open
from tests.samples import aged_houses, drawn_houses
from tests.throughmodel import WORDS, all_come_through, model_places, model_through, model_word, with_words

HOUSES = (
    aged_houses(740, 60) + drawn_houses(741, 30) + aged_houses(742, 40, kinds=1) + aged_houses(743, 60, kinds=2)
    + drawn_houses(744, 20, kinds=2, words=("oust", "oust", "yield", "wait"))
    + aged_houses(745, 40, kinds=3, couples=(("oust", "wait"),) * 6 + (("yield", "wait"), ("oust", "yield")))
    + aged_houses(748, 40, kinds=4, couples=(("oust", "wait"),) * 20 + (("yield", "wait"), ("oust", "yield")))
)
ALL = [(house, is_open) for house in HOUSES for is_open in (False, True)]


def all_kinds(house):
    """All ascending tuples of kinds, the empty one too."""
    kinds = range(len(house[0]))
    return [lot for many in range(len(kinds) + 1) for lot in itertools.combinations(kinds, many)]


class TestThroughKinds(unittest.TestCase):
    def test_against_all_kinds(self):
        seen = set()
        for house, is_open in ALL:
            kinds = range(len(house[0]))
            told = through_kinds(house, is_open)
            self.assertIsInstance(told, tuple)
            self.assertEqual(told, model_through(house, is_open))
            if is_open:
                self.assertEqual(told, tuple(kind for kind in kinds if comes_through_open(house, kind)))
            else:
                self.assertEqual(told, tuple(kind for kind in kinds if not can_be_held(house, kind)))
            seen.add((len(told), is_open))
        self.assertLessEqual({(0, False), (0, True), (1, False), (1, True), (2, False), (2, True)}, seen)
        self.assertTrue(any(model_through(house, False) != model_through(house, True) for house in HOUSES))


class TestGainingKinds(unittest.TestCase):
    def test_against_all_kinds(self):
        seen = {}
        for house, is_open in ALL:
            through = model_through(house, is_open)
            for kinds in all_kinds(house):
                for kind in kinds:
                    wanted = () if kind in through else tuple(one for one in kinds if one in through)
                    told = gaining_kinds(house, kind, kinds, is_open)
                    self.assertIsInstance(told, tuple)
                    self.assertEqual(told, wanted)
                    which = (kind in through, len(wanted) > 0, len(wanted) > 1)
                    seen[which] = seen.get(which, 0) + 1
        self.assertEqual(len(seen), 4, seen)
        self.assertGreater(min(seen.values()), 10, seen)


class TestNobodyGains(unittest.TestCase):
    def test_against_all_kinds(self):
        seen = {}
        for house, is_open in ALL:
            through = model_through(house, is_open)
            for kinds in all_kinds(house):
                wanted = all(kind in through for kind in kinds) or not any(kind in through for kind in kinds)
                self.assertIs(nobody_gains(house, kinds, is_open), wanted)
                self.assertIs(wanted, all(gaining_kinds(house, kind, kinds, is_open) == () for kind in kinds))
                if len(kinds) > 1:
                    seen[wanted, kinds[0] in through] = seen.get((wanted, kinds[0] in through), 0) + 1
            self.assertIs(nobody_gains(house, (), is_open), True)
            self.assertIs(nobody_gains(house, (0,), is_open), True)
        self.assertEqual(len(seen), 4, seen)
        self.assertGreater(min(seen.values()), 20, seen)


class TestLevellingWords(unittest.TestCase):
    def wanted(self, house, kinds, is_open):
        if all_come_through(house, kinds, is_open):
            return []
        couples = [(place, word) for place in model_places(house) for word in WORDS if word != model_word(house, place)]
        return [
            (place, word) for place, word in couples
            if all_come_through(with_words(house, [place], [word]), kinds, is_open)
        ]

    def test_against_all_words(self):
        draw = random.Random(746)
        seen = {}
        for house, is_open in ALL:
            if len(model_places(house)) > 60:
                continue
            for kinds in draw.sample(all_kinds(house), 2) + [tuple(range(len(house[0])))]:
                told = levelling_words(house, kinds, is_open)
                wanted = self.wanted(house, kinds, is_open)
                self.assertIsInstance(told, list)
                self.assertEqual(told, wanted)
                self.assertEqual(wanted, sorted(wanted))
                through = all_come_through(house, kinds, is_open)
                which = (is_open, through, min(len(wanted), 2))
                seen[which] = seen.get(which, 0) + 1
                told.clear()
                self.assertEqual(levelling_words(house, kinds, is_open), wanted)
        for is_open in (False, True):
            for which in ((True, 0), (False, 0), (False, 1), (False, 2)):
                self.assertGreater(seen[(is_open,) + which], 5, seen)

    def test_no_kinds_at_all(self):
        for house, is_open in ALL:
            self.assertEqual(levelling_words(house, (), is_open), [])

    def test_many_places(self):
        # More than 40 places, at which least_changes refuses to look for two changes.
        house = drawn_houses(747, 1, kinds=4, sorts=2, words=("oust", "wait"))[0]
        for is_open in (False, True):
            self.assertEqual(levelling_words(house, (0,), is_open), self.wanted(house, (0,), is_open))

    def test_the_example(self):
        house = ((("a", True, 0),), ("s",), (((("oust", "wait"),),),))
        self.assertEqual(through_kinds(house, True), (0,))
        self.assertEqual(gaining_kinds(house, 0, (0,), True), ())
        self.assertEqual(levelling_words(house, (0,), True), [])


if __name__ == "__main__":
    unittest.main()
