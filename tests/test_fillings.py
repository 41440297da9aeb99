"""[55]: open words."""

import itertools
import random
import unittest

from comesthrough.errors import TooMany
from comesthrough.fillings import filled, fillings, fixed_words, free_places
from tests.samples import aged_houses, drawn_houses, refusal
from tests.throughmodel import WORDS, all_come_through, drawn_kinds, model_places, model_word, with_words

HOUSE = ((("a", True, 0),), ("s",), (((("wait", "wait"),),),))
ELDER, YOUNGER = (0, 0, 0, 0), (0, 0, 0, 1)
HOUSES = (
    aged_houses(550, 40) + drawn_houses(551, 25) + aged_houses(552, 40, kinds=1) + drawn_houses(553, 20, kinds=1)
    + aged_houses(554, 30, kinds=2) + aged_houses(555, 20, couples=(("oust", "wait"), ("oust", "yield")))
    + drawn_houses(556, 15, rising=False, words=("wait", "yield")) + aged_houses(557, 20, kinds=2, couples=(("oust", "wait"),))
)


def wanted_fillings(house, places, kinds, is_open):
    """What fillings has to return: all words tried."""
    return [
        words for words in itertools.product(WORDS, repeat=len(places))
        if all_come_through(with_words(house, places, words), kinds, is_open)
    ]


def drawn_places(draw, house, most):
    places = model_places(house)
    return tuple(sorted(draw.sample(places, min(len(places), draw.randint(0, most)))))


def is_free(words_lots, at):
    return all(
        words[:at] + (word,) + words[at + 1:] in words_lots for words in words_lots for word in WORDS
    )


class TestFillings(unittest.TestCase):
    def test_filled(self):
        draw = random.Random(558)
        for house in HOUSES:
            for most in (3, 6, 40):
                places = drawn_places(draw, house, most)
                words = tuple(draw.choice(WORDS) for _ in places)
                self.assertEqual(repr(filled(house, places, words)), repr(with_words(house, places, words)))
            self.assertEqual(filled(house, (), ()), house)
            places = tuple(model_places(house))
            self.assertEqual(filled(house, places, tuple(model_word(house, place) for place in places)), house)

    def test_the_example(self):
        self.assertEqual(fillings(HOUSE, (ELDER,), (0,), False), [("oust",), ("yield",)])
        self.assertEqual(fillings(HOUSE, (ELDER,), (0,), True), [("oust",)])
        found = fillings(HOUSE, (ELDER, YOUNGER), (0,), False)
        self.assertEqual(found[:3], [("oust", "wait"), ("oust", "yield"), ("wait", "oust")])
        self.assertEqual(fixed_words(HOUSE, (ELDER,), (0,), False), [("oust", "yield")])

    def check(self, house, places, kinds, is_open):
        wanted = wanted_fillings(house, places, kinds, is_open)
        self.assertEqual(fillings(house, places, kinds, is_open), wanted)
        fixed = [tuple(sorted({words[at] for words in wanted})) for at in range(len(places))]
        self.assertEqual(fixed_words(house, places, kinds, is_open), fixed)
        free = tuple(place for at, place in enumerate(places) if wanted and is_free(set(wanted), at))
        self.assertEqual(free_places(house, places, kinds, is_open), free)
        return (len(wanted) == 0, len(wanted) == 3 ** len(places), len(free) > 0)

    def test_all_words_tried(self):
        draw = random.Random(559)
        seen = {}
        for house in HOUSES:
            for is_open in (False, True):
                told = self.check(house, drawn_places(draw, house, 4), drawn_kinds(draw, house), is_open)
                seen[(is_open,) + told] = seen.get((is_open,) + told, 0) + 1
        for is_open in (False, True):
            for told in ((True, False, False), (False, False, False), (False, False, True), (False, True, True)):
                self.assertGreater(seen.get((is_open,) + told, 0), 1, (is_open, told, seen))

    def test_six_places(self):
        draw = random.Random(560)
        for house in aged_houses(561, 3, kinds=2) + drawn_houses(562, 2, kinds=3, sorts=1):
            places = tuple(sorted(draw.sample(model_places(house), 6)))
            for is_open in (False, True):
                self.check(house, places, (0,), is_open)

    def test_all_places_of_one_kind(self):
        for sorts in (1, 2):
            for house in aged_houses(563, 6, kinds=1) + drawn_houses(564, 4, kinds=1):
                house = (house[0], ("s", "t")[:sorts], (house[2] * 2)[:sorts])
                for is_open in (False, True):
                    self.check(house, tuple(model_places(house)), (0,), is_open)

    def test_no_places(self):
        seen = set()
        for house in HOUSES:
            for kinds in ((), (0,), tuple(range(len(house[0])))):
                for is_open in (False, True):
                    wanted = all_come_through(house, kinds, is_open)
                    self.assertEqual(fillings(house, (), kinds, is_open), [()] if wanted else [])
                    self.assertEqual(fixed_words(house, (), kinds, is_open), [])
                    self.assertEqual(free_places(house, (), kinds, is_open), ())
                    seen.add((is_open, wanted))
        self.assertEqual(len(seen), 4)

    def test_no_kinds(self):
        for house in HOUSES[::4]:
            for many in (1, 2):
                places = tuple(model_places(house)[:many])
                for is_open in (False, True):
                    self.assertEqual(fillings(house, places, (), is_open), list(itertools.product(WORDS, repeat=many)))
                    self.assertEqual(fixed_words(house, places, (), is_open), [WORDS] * many)
                    self.assertEqual(free_places(house, places, (), is_open), places)

    def test_no_filling(self):
        # b is held by itself, whatever stands where others are asked.
        row = (("wait", "wait"), ("wait", "wait"))
        house = ((("a", True, 0), ("b", True, 1)), ("s",), ((row, row),))
        for is_open in (False, True):
            places = ((0, 0, 0, 0), (0, 0, 1, 0), (0, 1, 0, 1))
            self.assertEqual(fillings(house, places, (1,), is_open), [])
            self.assertEqual(fixed_words(house, places, (1,), is_open), [(), (), ()])
            self.assertEqual(free_places(house, places, (1,), is_open), ())

    def test_too_many(self):
        for house in drawn_houses(565, 10, kinds=2, sorts=1) + drawn_houses(566, 4, kinds=5, sorts=3):
            places = model_places(house)
            for call in (fillings, fixed_words, free_places):
                for is_open in (False, True):
                    for kinds in ((), (0,)):
                        for lot in (tuple(places[:7]), tuple(places[-8:])):
                            refused = refusal(call, house, lot, kinds, is_open)
                            self.assertEqual((refused.__class__, refused.most), (TooMany, 6))
                self.assertIsNone(refusal(call, house, tuple(places[:6]), (0,), False))

    def test_lists_are_new(self):
        for call in (fillings, fixed_words):
            wanted = call(HOUSE, (ELDER, YOUNGER), (0,), False)
            told = call(HOUSE, (ELDER, YOUNGER), (0,), False)
            told.clear()
            self.assertEqual(call(HOUSE, (ELDER, YOUNGER), (0,), False), wanted)
            self.assertTrue(all(isinstance(words, tuple) for words in wanted))


if __name__ == "__main__":
    unittest.main()
