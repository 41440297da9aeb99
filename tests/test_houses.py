"""[17] and [18]: asking a house, and other houses."""

import itertools
import random
import unittest

from comesthrough.errors import NoKind, NoSort, NotLater, Taken, TooFew, TooMany
from comesthrough.forms import is_house, is_place
from comesthrough.houses import (
    is_meek, keeps_all, kind_named, last_one, places_of, raised_kinds, renamed_house, reordered, sort_named, with_keeps,
    with_kind, with_rise, with_sort, with_word, without_kind, without_sort, word_at,
)
from tests.samples import WORDS, drawn_houses, junk, refusal

HOUSES = drawn_houses(17, 120)
SIZED = [
    house for kinds in range(1, 6) for sorts in range(1, 4)
    for house in drawn_houses(100 * kinds + sorts, 3, kinds=kinds, sorts=sorts)
]


def waiting(keeps, rises, sorts=1):
    """A house of kinds a, b .. in which all wait."""
    many = len(rises)
    kinds = tuple(("abcde"[kind], keeps[kind], rises[kind]) for kind in range(many))
    return (kinds, tuple("stu"[:sorts]), ((((("wait", "wait"),) * many),) * many,) * sorts)


def words_of_house(house):
    return {place: word_at(house, place) for place in places_of(house)}


def but(things, at):
    return things[:at] + things[at + 1:]


class TestAsking(unittest.TestCase):
    def test_names(self):
        for house in HOUSES + SIZED:
            for index, kind in enumerate(house[0]):
                self.assertEqual(kind_named(house, kind[0]), index)
            for index, name in enumerate(house[1]):
                self.assertEqual(sort_named(house, name), index)

    def test_names_of_none(self):
        house = waiting([True, True], [0, 1])
        for call, error, names in ((kind_named, NoKind, ("a", "b")), (sort_named, NoSort, ("s",))):
            for thing in junk() + ["A", "a ", "s\n", "c", "t", ["a"], ("s",)]:
                if not isinstance(thing, str) or thing not in names:
                    refused = refusal(call, house, thing)
                    self.assertIs(refused.__class__, error)
                    self.assertIs(refused.name, thing)

    def test_kinds_and_sorts_are_told_apart(self):
        house = waiting([True, True], [0, 1])
        self.assertEqual(refusal(kind_named, house, "s").name, "s")
        self.assertEqual(refusal(sort_named, house, "a").name, "a")

    def test_places(self):
        for house in SIZED:
            kinds, sorts = len(house[0]), len(house[1])
            wanted = sorted(itertools.product(range(sorts), range(kinds), range(kinds), (0, 1)))
            self.assertEqual(places_of(house), wanted)
            self.assertTrue(all(is_place(house, place) for place in places_of(house)))
            places_of(house).clear()
            self.assertEqual(places_of(house), wanted)
            for sort, asker, holder, side in wanted:
                self.assertEqual(word_at(house, (sort, asker, holder, side)), house[2][sort][asker][holder][side])

    def test_last_one(self):
        house = waiting([True] * 5, [2, 4, 3, 3, 4])
        self.assertEqual([last_one(house, kind) for kind in range(5)], [3, 4, 3, 3, 4])
        self.assertEqual(last_one(waiting([True], [0]), 0), 0)

    def test_nobody_is_put_out_where_all_wait(self):
        house = waiting([True] * 4, [1, 2, 3, 3])
        self.assertEqual([raised_kinds(house, kind) for kind in range(4)], [(0,), (1,), (2,), (3,)])

    def test_each_word_that_puts_out(self):
        for sorts in (1, 2):
            house = waiting([True] * 4, [2, 1, 3, 3], sorts)
            for place in places_of(house):
                _, asker, holder, _ = place
                yields, ousts = with_word(house, place, "yield"), with_word(house, place, "oust")
                self.assertEqual(raised_kinds(yields, 0), (0, 2) if asker == 0 else (0,))
                self.assertEqual(raised_kinds(ousts, 0), (0, 2) if holder == 0 else (0,))
                self.assertEqual(raised_kinds(ousts, 1), (1,))
                self.assertEqual(raised_kinds(yields, 2), (2, 3) if asker == 2 else (2,))

    def test_rises_of_several_steps(self):
        house = waiting([True] * 5, [1, 2, 3, 4, 4])
        for kind in (0, 1, 2):
            house = with_word(house, (0, kind, 4, 0), "yield")
        self.assertEqual([raised_kinds(house, kind) for kind in range(5)], [(0, 1, 2, 3), (1, 2, 3), (2, 3), (3,), (4,)])
        house = with_word(house, (0, 4, 3, 1), "oust")
        self.assertEqual(raised_kinds(house, 0), (0, 1, 2, 3, 4))
        self.assertEqual(raised_kinds(with_word(house, (0, 1, 4, 0), "oust"), 0), (0, 1))

    def test_raised_kinds_of_drawn_houses(self):
        for house in HOUSES:
            words = words_of_house(house)
            out = [
                any(word == "yield" and place[1] == kind or word == "oust" and place[2] == kind
                    for place, word in words.items())
                for kind in range(len(house[0]))
            ]
            for kind in range(len(house[0])):
                wanted, here = [kind], kind
                while out[here] and house[0][here][2] != here:
                    here = house[0][here][2]
                    wanted.append(here)
                self.assertEqual(raised_kinds(house, kind), tuple(wanted))

    def test_meek(self):
        house = waiting([True, False], [0, 1], 2)
        self.assertIs(is_meek(house), True)
        self.assertIs(is_meek(with_rise(house, 0, 1)), False)
        for place in places_of(house):
            self.assertIs(is_meek(with_word(house, place, "yield")), True)
            self.assertIs(is_meek(with_word(house, place, "oust")), False)

    def test_meek_of_drawn_houses(self):
        seen = set()
        for house in HOUSES + drawn_houses(18, 60, words=("wait", "yield")):
            last = all(kind[2] == index for index, kind in enumerate(house[0]))
            self.assertIs(is_meek(house), last and "oust" not in words_of_house(house).values())
            seen.add(is_meek(house))
        self.assertEqual(seen, {True, False})
        for kind in range(4):
            self.assertIs(is_meek(with_rise(waiting([True] * 5, range(5)), kind, 4)), False)

    def test_keeps_all(self):
        self.assertIs(keeps_all(waiting([True] * 3, [0, 1, 2])), True)
        for kind in range(3):
            self.assertIs(keeps_all(with_keeps(waiting([True] * 3, [0, 1, 2]), kind, False)), False)
        self.assertIs(keeps_all(waiting([False], [0])), False)


class TestOther(unittest.TestCase):
    def test_with_word(self):
        draw = random.Random(5)
        for house in SIZED:
            before = repr(house)
            for place in places_of(house):
                word = draw.choice(WORDS)
                other = with_word(house, place, word)
                self.assertTrue(is_house(other))
                self.assertEqual(words_of_house(other), {**words_of_house(house), place: word})
                self.assertEqual(other[:2], house[:2])
            self.assertEqual(repr(house), before)

    def test_with_keeps(self):
        for house in SIZED:
            for kind in range(len(house[0])):
                for keeps in (True, False):
                    other = with_keeps(house, kind, keeps)
                    self.assertTrue(is_house(other))
                    self.assertEqual(other[1:], house[1:])
                    self.assertEqual(but(other[0], kind), but(house[0], kind))
                    self.assertEqual(other[0][kind], (house[0][kind][0], keeps, house[0][kind][2]))

    def test_with_rise(self):
        for house in SIZED:
            for kind in range(len(house[0])):
                for rise in range(kind, len(house[0])):
                    other = with_rise(house, kind, rise)
                    self.assertTrue(is_house(other))
                    self.assertEqual(other[1:], house[1:])
                    self.assertEqual(but(other[0], kind), but(house[0], kind))
                    self.assertEqual(other[0][kind], (*house[0][kind][:2], rise))

    def test_with_kind(self):
        for house in SIZED:
            many = len(house[0])
            for like in range(many):
                if many == 5:
                    continue
                other = with_kind(house, "newname", like)
                self.assertTrue(is_house(other))
                self.assertEqual(other[0][:-1], house[0])
                self.assertEqual(other[0][-1], ("newname", house[0][like][1], many))
                self.assertEqual(other[1], house[1])
                for sort, asker, holder, side in places_of(other):
                    as_before = (sort, like if asker == many else asker, like if holder == many else holder, side)
                    self.assertEqual(word_at(other, (sort, asker, holder, side)), word_at(house, as_before))

    def test_with_kind_refuses(self):
        five = waiting([True] * 5, range(5))
        for name in ("f", "a"):
            refused = refusal(with_kind, five, name, 0)
            self.assertEqual((refused.__class__, refused.most), (TooMany, 5))
        for many in range(1, 5):
            house = waiting([True] * many, range(many))
            for kind in house[0]:
                refused = refusal(with_kind, house, kind[0], 0)
                self.assertEqual((refused.__class__, refused.name), (Taken, kind[0]))
            self.assertTrue(is_house(with_kind(house, "s", 0)))

    def test_with_sort(self):
        for house in SIZED:
            for like in range(len(house[1])):
                if len(house[1]) == 3:
                    continue
                other = with_sort(house, "newname", like)
                self.assertTrue(is_house(other))
                self.assertEqual(other, (house[0], house[1] + ("newname",), house[2] + (house[2][like],)))

    def test_with_sort_refuses(self):
        three = waiting([True] * 2, range(2), 3)
        for name in ("v", "s"):
            refused = refusal(with_sort, three, name, 0)
            self.assertEqual((refused.__class__, refused.most), (TooMany, 3))
        for sorts in (1, 2):
            house = waiting([True] * 2, range(2), sorts)
            for name in house[1]:
                refused = refusal(with_sort, house, name, 0)
                self.assertEqual((refused.__class__, refused.name), (Taken, name))
            self.assertTrue(is_house(with_sort(house, "a", 0)))

    def test_without_kind(self):
        for house in SIZED:
            for kind in range(len(house[0])):
                if len(house[0]) == 1:
                    self.assertIs(refusal(without_kind, house, kind).__class__, TooFew)
                    continue
                other = without_kind(house, kind)
                self.assertTrue(is_house(other))
                self.assertEqual([one[:2] for one in other[0]], [one[:2] for one in but(house[0], kind)])
                old = [one for one in range(len(house[0])) if one != kind]
                for sort, asker, holder, side in places_of(other):
                    as_before = (sort, old[asker], old[holder], side)
                    self.assertEqual(word_at(other, (sort, asker, holder, side)), word_at(house, as_before))

    def test_rises_past_a_kind_that_goes(self):
        house = waiting([True] * 5, [2, 2, 4, 4, 4])
        self.assertEqual([kind[2] for kind in without_kind(house, 2)[0]], [3, 3, 3, 3])
        self.assertEqual([kind[2] for kind in without_kind(house, 4)[0]], [2, 2, 2, 3])
        self.assertEqual([kind[2] for kind in without_kind(house, 0)[0]], [1, 3, 3, 3])
        self.assertEqual([kind[2] for kind in without_kind(house, 3)[0]], [2, 2, 3, 3])
        house = waiting([True] * 3, [1, 1, 2])
        self.assertEqual([kind[2] for kind in without_kind(house, 1)[0]], [0, 1])
        self.assertEqual([kind[0] for kind in without_kind(house, 1)[0]], ["a", "c"])

    def test_without_sort(self):
        for house in SIZED:
            for sort in range(len(house[1])):
                if len(house[1]) == 1:
                    self.assertIs(refusal(without_sort, house, sort).__class__, TooFew)
                    continue
                other = without_sort(house, sort)
                self.assertTrue(is_house(other))
                self.assertEqual(other, (house[0], but(house[1], sort), but(house[2], sort)))

    def test_reordered(self):
        for house in SIZED:
            many = len(house[0])
            for order in itertools.permutations(range(many)):
                earlier = [kind for kind in range(many) if order.index(house[0][kind][2]) < order.index(kind)]
                refused = refusal(reordered, house, order)
                if earlier:
                    self.assertEqual((refused.__class__, refused.kind), (NotLater, earlier[0]))
                    continue
                other = reordered(house, order)
                self.assertTrue(is_house(other))
                self.assertEqual([kind[:2] for kind in other[0]], [house[0][old][:2] for old in order])
                self.assertEqual([order[kind[2]] for kind in other[0]], [house[0][old][2] for old in order])
                self.assertEqual(other[1], house[1])
                for sort, asker, holder, side in places_of(other):
                    as_before = (sort, order[asker], order[holder], side)
                    self.assertEqual(word_at(other, (sort, asker, holder, side)), word_at(house, as_before))

    def test_not_later_by_the_index_as_it_was(self):
        house = waiting([True] * 4, [0, 3, 3, 3])
        self.assertEqual(refusal(reordered, house, (3, 2, 1, 0)).kind, 1)
        self.assertEqual(refusal(reordered, house, (1, 3, 2, 0)).kind, 2)
        self.assertEqual(reordered(house, (2, 1, 3, 0))[0], (("c", True, 2), ("b", True, 2), ("d", True, 2), ("a", True, 3)))

    def test_renamed(self):
        house = waiting([True, False, True], [1, 1, 2], 2)
        kinds, sorts = {"c": "b", "a": "c", "b": "a"}, {"t": "s", "s": "t"}
        other = renamed_house(house, kinds, sorts)
        self.assertEqual(other, ((("c", True, 1), ("a", False, 1), ("b", True, 2)), ("t", "s"), house[2]))
        self.assertEqual(kinds, {"c": "b", "a": "c", "b": "a"})
        self.assertEqual(renamed_house(other, {"b": "c", "c": "a", "a": "b"}, {"s": "t", "t": "s"}), house)

    def test_renamed_drawn_houses(self):
        for house in HOUSES:
            kinds = {kind[0]: name for kind, name in zip(house[0], ("q", "r", "ab", "b", "zz"))}
            sorts = {name: fresh for name, fresh in zip(house[1], ("ab", "q", "zz"))}
            backwards = dict(reversed(kinds.items()))
            other = renamed_house(house, kinds, sorts)
            self.assertEqual(other, renamed_house(house, backwards, sorts))
            self.assertEqual([kind[1:] for kind in other[0]], [kind[1:] for kind in house[0]])
            self.assertEqual([kind[0] for kind in other[0]], list(kinds.values()))
            self.assertEqual(other[1:], (tuple(sorts.values()), house[2]))


if __name__ == "__main__":
    unittest.main()
