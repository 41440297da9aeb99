"""[57]: what holds a kind off in a closed house."""

import itertools
import random
import unittest

from comesthrough.blame import blamed, holds, in_all, least_holding
from comesthrough.errors import TooMany
from comesthrough.held import can_be_held
from tests.model import model_is_held
from tests.samples import aged_houses, drawn_houses, refusal
from tests.throughmodel import WORDS, model_holds, model_places, model_through, model_word, with_words

HOUSE = ((("a", True, 0),), ("s",), (((("wait", "wait"),),),))
ELDER, YOUNGER = (0, 0, 0, 0), (0, 0, 0, 1)


def two_kinds(one, other, first, second):
    return ((("a",) + one, ("b",) + other), ("s",), ((first, second),))


HOUSES = (
    aged_houses(600, 40) + drawn_houses(601, 20) + drawn_houses(602, 20, kinds=1) + aged_houses(603, 30, kinds=2)
    + drawn_houses(604, 20, words=("oust", "yield", "yield")) + aged_houses(605, 30, kinds=3)
    + aged_houses(606, 30, kinds=4, couples=(("oust", "wait"),) * 8 + (("wait", "yield"), ("yield", "wait")))
)
# At most 20 places, so that all sets can be tried.
SMALL = (
    drawn_houses(607, 25, kinds=1) + aged_houses(608, 20, kinds=1) + drawn_houses(609, 12, kinds=2, sorts=1)
    + [house for house in aged_houses(610, 60, kinds=2) if len(house[1]) == 1][:14]
    # Here some places are in each set that holds a kind, though no other word there lets it come through.
    + [
        two_kinds((True, 1), (True, 1), (("yield", "wait"), ("oust", "oust")), (("wait", "wait"), ("yield", "yield"))),
        two_kinds((False, 0), (True, 1), (("oust", "wait"), ("oust", "oust")), (("oust", "wait"), ("wait", "wait"))),
        two_kinds((False, 0), (False, 1), (("wait", "wait"), ("oust", "oust")), (("yield", "yield"), ("wait", "yield"))),
    ]
)


def wanted_holding(house, kind):
    """What least_holding has to return, by a search of all sets of places."""
    places = model_places(house)
    for many in range(len(places) + 1):
        found = [lot for lot in itertools.combinations(places, many) if model_holds(house, kind, lot)]
        if found:
            return found
    return []


def without_place(house, place):
    return [one for one in model_places(house) if one != place]


class TestHolds(unittest.TestCase):
    def test_the_example(self):
        self.assertEqual(least_holding(HOUSE, 0), [(ELDER, YOUNGER)])
        self.assertEqual(blamed(HOUSE, 0)[0], (ELDER, ("oust", "yield")))
        self.assertIs(holds(HOUSE, 0, (ELDER,)), False)
        self.assertEqual(len(in_all(HOUSE, 0)), 2)

    def test_drawn_places(self):
        draw = random.Random(611)
        seen = {}
        for house in HOUSES + SMALL:
            places = model_places(house)
            for kind in range(len(house[0])):
                self.assertIs(holds(house, kind, tuple(places)), model_is_held(house, kind))
                self.assertIs(holds(house, kind, ()), False)
                for share in (0.4, 0.7, 0.9):
                    lot = tuple(place for place in places if draw.random() < share)
                    wanted = model_holds(house, kind, lot)
                    self.assertIs(holds(house, kind, lot), wanted)
                    told = (wanted, model_is_held(house, kind))
                    seen[told] = seen.get(told, 0) + 1
        self.assertEqual(sorted(seen), [(False, False), (False, True), (True, True)])
        self.assertGreater(min(seen.values()), 100)

    def test_raises_are_let_by_these_places_alone(self):
        # a is put out by c alone, and is a b then, which waits for its like.
        for couple, asker, holder, place in (
            (("yield", "wait"), 0, 2, (0, 0, 2, 0)), (("wait", "yield"), 0, 2, (0, 0, 2, 1)),
            (("oust", "wait"), 2, 0, (0, 2, 0, 0)), (("wait", "oust"), 2, 0, (0, 2, 0, 1)),
        ):
            rows = [[("wait", "wait")] * 3 for _ in range(3)]
            rows[asker][holder] = couple
            house = ((("a", True, 1), ("b", True, 1), ("c", True, 2)), ("s",), (tuple(map(tuple, rows)),))
            ring = ((0, 1, 1, 0), (0, 1, 1, 1))
            self.assertIs(holds(house, 1, ring), True)
            self.assertIs(holds(house, 0, ring), False)
            self.assertIs(holds(house, 0, tuple(sorted(ring + (place,)))), True)
            for other in model_places(house):
                lot = tuple(sorted(set(ring + (other,))))
                self.assertIs(holds(house, 0, lot), model_holds(house, 0, lot))

    def test_more_words_never_help(self):
        draw = random.Random(612)
        done = 0
        for house in HOUSES:
            places = model_places(house)
            for kind in range(len(house[0])):
                lot = tuple(place for place in places if draw.random() < 0.8)
                if holds(house, kind, lot):
                    others = [place for place in places if place not in lot]
                    for _ in range(4):
                        other = with_words(house, others, [draw.choice(WORDS) for _ in others])
                        self.assertIs(can_be_held(other, kind), True)
                        done += 1
        self.assertGreater(done, 200)


class TestLeastHolding(unittest.TestCase):
    def test_against_a_search(self):
        seen = {}
        for house in SMALL:
            for kind in range(len(house[0])):
                wanted = wanted_holding(house, kind)
                self.assertEqual(least_holding(house, kind), wanted)
                self.assertIs(wanted == [], not model_is_held(house, kind))
                told = len(wanted[0]) if wanted else 0
                seen[told] = seen.get(told, 0) + 1
                least_holding(house, kind).clear()
                self.assertEqual(least_holding(house, kind), wanted)
        self.assertLessEqual({0, 1, 2, 3}, set(seen), seen)

    def test_sixteen_and_eighteen_places(self):
        seen = set()
        houses = drawn_houses(613, 8, kinds=2, sorts=2) + drawn_houses(614, 8, kinds=3, sorts=1)
        more = [house for house in aged_houses(615, 90, kinds=3) if len(house[1]) == 1][:30]
        for house in houses + more:
            for kind in range(len(house[0])):
                found = least_holding(house, kind)
                self.assertEqual(found, sorted(set(found)))
                self.assertIs(found == [], not model_is_held(house, kind))
                self.assertTrue(all(model_holds(house, kind, lot) for lot in found))
                seen.add(len(found[0]) if found else 0)
                # Without any place of a least set the rest of it does not hold.
                for lot in found:
                    self.assertEqual(len(lot), len(found[0]))
                    for place in lot:
                        self.assertFalse(model_holds(house, kind, tuple(one for one in lot if one != place)))
        self.assertLessEqual({0, 1, 2, 3, 4}, seen)

    def test_too_many(self):
        for kinds, sorts in ((2, 3), (3, 2), (5, 1), (5, 3)):
            for house in drawn_houses(616, 3, kinds=kinds, sorts=sorts):
                refused = refusal(least_holding, house, 0)
                self.assertEqual((refused.__class__, refused.most), (TooMany, 20))
                for call in (blamed, in_all):
                    self.assertIsNone(refusal(call, house, 0))
        # Also where the kind comes through.
        through = ((("a", True, 0), ("b", True, 1)), ("s", "t", "u"), (((("wait", "yield"),) * 2,) * 2,) * 3)
        self.assertEqual(model_through(through, False), (0, 1))
        self.assertEqual(refusal(least_holding, through, 0).most, 20)
        for kinds, sorts in ((3, 1), (2, 2), (1, 3)):
            for house in drawn_houses(617, 3, kinds=kinds, sorts=sorts):
                self.assertIsNone(refusal(least_holding, house, 0))


class TestBlamed(unittest.TestCase):
    def wanted(self, house, kind):
        """What blamed has to return: all other words at each place."""
        if kind in model_through(house, False):
            return []
        found = []
        for place in model_places(house):
            words = [word for word in WORDS if word != model_word(house, place)]
            helping = tuple(word for word in words if kind in model_through(with_words(house, [place], [word]), False))
            found.extend([(place, helping)] if helping else [])
        return found

    def test_against_all_other_words(self):
        seen = set()
        for house in [house for house in HOUSES + SMALL if len(model_places(house)) <= 50]:
            for kind in range(len(house[0])):
                wanted = self.wanted(house, kind)
                self.assertEqual(blamed(house, kind), wanted)
                seen |= {words for _, words in wanted} | {len(wanted) > 1}
                blamed(house, kind).clear()
                self.assertEqual(blamed(house, kind), wanted)
        self.assertLessEqual({True, False, ("oust",), ("yield",), ("wait", "yield"), ("oust", "wait"), ("oust", "yield")}, seen)

    def test_in_all(self):
        seen = {}
        for house in [house for house in HOUSES + SMALL if len(model_places(house)) <= 64]:
            for kind in range(len(house[0])):
                found = in_all(house, kind)
                self.assertIsInstance(found, tuple)
                if kind in model_through(house, False):
                    self.assertEqual(found, ())
                    self.assertEqual(blamed(house, kind), [])
                    continue
                wanted = tuple(
                    place for place in model_places(house) if not model_holds(house, kind, without_place(house, place))
                )
                self.assertEqual(found, wanted)
                self.assertLessEqual({place for place, _ in blamed(house, kind)}, set(found))
                told = (len(found), len(blamed(house, kind)))
                seen[min(told[0], 2), told[0] > told[1]] = seen.get((min(told[0], 2), told[0] > told[1]), 0) + 1
        self.assertEqual(set(seen), {(0, False), (1, False), (2, False), (2, True)}, seen)

    def test_in_all_are_in_each_least_set(self):
        for house in SMALL:
            for kind in range(len(house[0])):
                found = least_holding(house, kind)
                for lot in found:
                    self.assertLessEqual(set(in_all(house, kind)), set(lot))


if __name__ == "__main__":
    unittest.main()
