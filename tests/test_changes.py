"""[56]: changes by which kinds come through."""

import itertools
import random
import unittest

from comesthrough.changes import changed, helping_rises, is_change, least_changes, least_keeping
from comesthrough.errors import TooMany
from comesthrough.hall import Hall
from comesthrough.houses import with_rise
from tests.samples import aged_houses, changed_leaves, changed_tuples, drawn_house, drawn_houses, junk, refusal
from tests.throughmodel import (
    WORDS, all_come_through, drawn_kinds, model_places, model_through, model_word, with_words,
)

HOUSE = ((("a", True, 0),), ("s",), (((("wait", "wait"),),),))
ELDER, YOUNGER = (0, 0, 0, 0), (0, 0, 0, 1)
HOUSES = (
    aged_houses(570, 40) + drawn_houses(571, 20) + aged_houses(572, 30, kinds=1) + aged_houses(573, 30, kinds=2)
    + drawn_houses(574, 20, kinds=2, words=("oust", "oust", "yield", "wait"))
    + aged_houses(575, 30, kinds=3, couples=(("oust", "wait"),) * 6 + (("yield", "wait"), ("oust", "yield")))
)


def put(house, change):
    return with_words(house, [place for place, _ in change], [word for _, word in change])


def all_changes(house, most):
    """All changes of at most so many couples."""
    for many in range(most + 1):
        for places in itertools.combinations(model_places(house), many):
            words = [[word for word in WORDS if word != model_word(house, place)] for place in places]
            for lot in itertools.product(*words):
                yield tuple(zip(places, lot))


def wanted_changes(house, kinds, is_open, most):
    """What least_changes has to return, by a search of all changes."""
    enough = [change for change in all_changes(house, most) if all_come_through(put(house, change), kinds, is_open)]
    return sorted(change for change in enough if not any(set(other) < set(change) for other in enough))


class TestChange(unittest.TestCase):
    def test_all_small_changes(self):
        for house in HOUSES[::10]:
            places = model_places(house)[:6]
            couples = [(place, word) for place in places for word in WORDS]
            for many in range(3):
                for lot in itertools.permutations(couples, many):
                    wanted = all(model_word(house, place) != word for place, word in lot)
                    wanted = wanted and [place for place, _ in lot] == sorted({place for place, _ in lot})
                    self.assertIs(is_change(house, lot), wanted, lot)

    def test_places_twice_and_words_that_are_there(self):
        house = (HOUSE[0], ("s", "t"), HOUSE[2] * 2)
        right = ((ELDER, "oust"), (YOUNGER, "yield"), ((1, 0, 0, 1), "oust"))
        self.assertIs(is_change(house, ()), True)
        self.assertIs(is_change(house, right), True)
        for lot in itertools.permutations(right):
            self.assertIs(is_change(house, lot), lot == right)
        self.assertIs(is_change(house, ((ELDER, "oust"), (ELDER, "yield"))), False)
        self.assertIs(is_change(house, ((ELDER, "oust"), (ELDER, "oust"))), False)
        self.assertIs(is_change(house, ((ELDER, "wait"),)), False)
        self.assertIs(is_change(house, ((ELDER, "oust"), (YOUNGER, "wait"))), False)
        self.assertIs(is_change(HOUSE, right), False)

    def test_any_value(self):
        for thing in junk() + [Hall(HOUSE), [(ELDER, "oust")], {ELDER: "oust"}, (ELDER, "oust"), ((ELDER, "oust"), ())]:
            self.assertIs(is_change(HOUSE, thing), isinstance(thing, tuple) and thing == (), thing)
        house = drawn_house(random.Random(576), kinds=3, sorts=2)
        words = [next(word for word in WORDS if word != model_word(house, place)) for place in model_places(house)]
        change = tuple(zip(model_places(house), words))[10:14]
        self.assertIs(is_change(house, change), True)
        for thing in changed_leaves(change, lambda leaf: [None, [], {}, -1, "x", 10 ** 39, (leaf,), bool(leaf), True, 3]):
            self.assertIs(is_change(house, thing), False, thing)
        others = lambda part: [list(part), part + (None,), None, (part,), "", {}, part[:-1] + (None,)]
        for thing in changed_tuples(change, others):
            self.assertIs(is_change(house, thing), False, thing)
        for at in range(len(change)):
            self.assertIs(is_change(house, change[:at] + change[at + 1:]), True)
            self.assertIs(is_change(house, change[:at] + (change[at][::-1],) + change[at + 1:]), False)

    def test_changed(self):
        draw = random.Random(577)
        for house in HOUSES:
            places = model_places(house)
            lot = sorted(draw.sample(places, draw.randint(0, min(5, len(places)))))
            change = tuple((place, draw.choice([word for word in WORDS if word != model_word(house, place)])) for place in lot)
            self.assertIs(is_change(house, change), True)
            self.assertEqual(repr(changed(house, change)), repr(put(house, change)))


class TestLeastChanges(unittest.TestCase):
    def test_the_example(self):
        self.assertEqual(least_changes(HOUSE, (0,), True, 1), [((ELDER, "oust"),)])
        self.assertEqual(least_keeping(((("a", False, 0),), ("s",), (((("wait", "oust"),),),)), (0,), False), [(0,)])

    def check(self, house, kinds, is_open, most):
        wanted = wanted_changes(house, kinds, is_open, most)
        found = least_changes(house, kinds, is_open, most)
        self.assertEqual(found, wanted)
        self.assertTrue(all(is_change(house, change) for change in found))
        found.clear()
        self.assertEqual(least_changes(house, kinds, is_open, most), wanted)
        return sorted({len(change) for change in wanted})

    def test_against_a_search(self):
        draw = random.Random(578)
        seen = {}
        for house in HOUSES:
            kinds = drawn_kinds(draw, house)
            for is_open in (False, True):
                for most in (0, 1, 2) if len(house[0]) == 1 else (0, 1):
                    told = (is_open, most) + tuple(self.check(house, kinds, is_open, most))
                    seen[told] = seen.get(told, 0) + 1
        for is_open in (False, True):
            for told in ((0,), (0, 0), (1,), (1, 0), (1, 1), (2, 0), (2, 1)):
                self.assertGreater(seen.get((is_open,) + told, 0), 1, (is_open, told, seen))

    def test_two_couples(self):
        seen = {}
        draw = random.Random(579)
        houses = aged_houses(580, 10, kinds=2) + drawn_houses(581, 6, kinds=2, sorts=1) + aged_houses(582, 10, kinds=1)
        for house in houses + drawn_houses(583, 15, kinds=1):
            for is_open in (False, True):
                for kinds in {drawn_kinds(draw, house), (0,)}:
                    for many in self.check(house, kinds, is_open, 2):
                        seen[is_open, many] = seen.get((is_open, many), 0) + 1
        self.assertGreater(min(seen.get((is_open, many), 0) for is_open in (False, True) for many in (0, 1, 2)), 2, seen)

    def test_ones_and_twos_together(self):
        # A couple of words that helps, though neither does, beside single words that do.
        found = [
            (house, is_open) for house in aged_houses(584, 60, kinds=2) for is_open in (False, True)
            if {len(change) for change in least_changes(house, (0,), is_open, 2)} == {1, 2}
        ]
        self.assertGreater(len(found), 3)
        for house, is_open in found[:3]:
            self.assertEqual(self.check(house, (0,), is_open, 2), [1, 2])

    def test_too_many(self):
        for kinds, sorts in ((5, 1), (4, 2), (3, 3), (5, 3)):
            for house in drawn_houses(585, 2, kinds=kinds, sorts=sorts):
                for told in (((0,), True), ((0,), False), ((), False)):
                    refused = refusal(least_changes, house, *told, 2)
                    self.assertEqual((refused.__class__, refused.most), (TooMany, 40))
                    self.assertIsNone(refusal(least_changes, house, *told, 1))
                    self.assertIsNone(refusal(least_changes, house, *told, 0))
        for kinds, sorts in ((3, 2), (4, 1)):
            for house in drawn_houses(586, 2, kinds=kinds, sorts=sorts):
                self.assertIsNone(refusal(least_changes, house, (0,), True, 2))

    def test_no_kinds(self):
        for house in HOUSES[::5]:
            for is_open in (False, True):
                for most in (0, 1):
                    self.assertEqual(least_changes(house, (), is_open, most), [()])
                self.assertEqual(least_keeping(house, (), is_open), [()])


class TestLeastKeeping(unittest.TestCase):
    def keeping(self, house, lot):
        kinds = tuple((name, keeps or kind in lot, rise) for kind, (name, keeps, rise) in enumerate(house[0]))
        return (kinds, house[1], house[2])

    def wanted(self, house, kinds, is_open):
        renewing = [kind for kind in range(len(house[0])) if house[0][kind][1] is False]
        lots = [lot for many in range(len(renewing) + 1) for lot in itertools.combinations(renewing, many)]
        enough = [lot for lot in lots if all_come_through(self.keeping(house, lot), kinds, is_open)]
        return sorted(lot for lot in enough if not any(set(other) < set(lot) for other in enough))

    def test_against_a_search(self):
        draw = random.Random(587)
        seen = {}
        houses = HOUSES + aged_houses(588, 60, kinds=4, couples=(("yield", "wait"),) * 5 + (("oust", "wait"),))
        for house in houses + drawn_houses(589, 30, rising=False, words=("yield", "oust"), kinds=3):
            for kinds in {drawn_kinds(draw, house), drawn_kinds(draw, house)}:
                for is_open in (False, True):
                    wanted = self.wanted(house, kinds, is_open)
                    self.assertEqual(least_keeping(house, kinds, is_open), wanted)
                    told = (is_open, max(map(len, wanted), default=None))
                    seen[told] = seen.get(told, 0) + 1
        for is_open in (False, True):
            for many in (None, 0, 1, 2):
                self.assertGreater(seen.get((is_open, many), 0), 1, seen)


class TestHelpingRises(unittest.TestCase):
    def test_against_with_rise(self):
        seen = {}
        for house in HOUSES + drawn_houses(590, 60, words=("yield", "oust", "oust")):
            for kind in range(len(house[0])):
                for is_open in (False, True):
                    wanted = tuple(
                        rise for rise in range(kind, len(house[0]))
                        if kind in model_through(with_rise(house, kind, rise), is_open)
                    )
                    self.assertEqual(helping_rises(house, kind, is_open), wanted)
                    through = kind in model_through(house, is_open)
                    self.assertIs(house[0][kind][2] in wanted, through)
                    told = (is_open, through, len(wanted) > 0, len(wanted) == len(house[0]) - kind)
                    seen[told] = seen.get(told, 0) + 1
        for is_open in (False, True):
            for told in ((False, False, False), (False, True, False), (True, True, False), (True, True, True)):
                self.assertGreater(seen.get((is_open,) + told, 0), 3, seen)


if __name__ == "__main__":
    unittest.main()
