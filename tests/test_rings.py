"""[32] and [41]: rings of told kinds, and standing by few."""

import itertools
import random
import unittest

from comesthrough.fewest import few_ring, few_run, few_standing
from comesthrough.rings import cross_couples, is_ring, ring_run
from comesthrough.runs import is_stuck, led
from comesthrough.standing import can_stand, is_standing_run
from tests.model import Model, model_kept_edges
from tests.samples import drawn_houses

HOUSES = (
    drawn_houses(320, 60) + drawn_houses(321, 60, words=("wait", "yield")) + drawn_houses(322, 40, words=("wait", "oust", "oust"))
    + drawn_houses(323, 80, kinds=4, sorts=1, words=("wait", "yield", "yield", "yield")) + drawn_houses(324, 20, kinds=1)
    + drawn_houses(325, 60, kinds=5, sorts=1, words=("wait", "oust", "yield", "yield"))
)
BOTH = ((("a", True, 0),), ("s",), (((("wait", "wait"),),),))


def stand_edges(house):
    return [(edge[0][1], edge[1][1], edge[2]) for edge in model_kept_edges(house) if edge[0][0] == "stand"]


def is_ring_by_rule(edges, kinds):
    """All ways of picking the edges are tried."""
    couples = list(zip(kinds, kinds[1:] + kinds[:1]))
    choices = [[word for word in ("elder", "younger") if couple + (word,) in edges] for couple in couples]
    return any(len(set(words)) == 2 for words in itertools.product(*choices))


def least_walk(house, kind):
    """The least number of edges of a way from a kind and a closed walk with both words, all among nodes with "stand"."""
    edges = stand_edges(house)
    states = {(kind, None, ())}
    for many in range(40):
        if any(start == here and len(words) == 2 for here, start, words in states):
            return many
        fresh = set()
        for here, start, words in states:
            for one, other, word in edges:
                if one == here:
                    if start is None:
                        fresh.add((other, None, ()))
                    first = here if start is None else start
                    fresh.add((other, first, tuple(sorted({*words, word}))))
        states = fresh
    return None


class TestRings(unittest.TestCase):
    def test_is_ring(self):
        draw = random.Random(326)
        seen = {True: 0, False: 0}
        for house in HOUSES:
            edges, kinds = stand_edges(house), range(len(house[0]))
            tuples = [kinds_told for many in (2, 3) for kinds_told in itertools.product(kinds, repeat=many)]
            tuples += [tuple(draw.choice(kinds) for _ in range(many)) for many in range(4, 11)]
            for told in tuples:
                self.assertIs(is_ring(house, told), is_ring_by_rule(edges, told))
                seen[is_ring(house, told)] += 1
            self.assertEqual(
                cross_couples(house),
                [(p, q) for p in kinds for q in kinds if p <= q and is_ring_by_rule(edges, (p, q))],
            )
        self.assertGreater(min(seen.values()), 1000)

    def test_words_of_two_edges(self):
        for words, wanted in (
            (("wait", "wait"), True), (("wait", "yield"), False), (("yield", "wait"), False), (("oust", "wait"), False),
        ):
            house = ((("a", True, 0),), ("s",), (((words,),),))
            for many in range(2, 11):
                self.assertIs(is_ring(house, (0,) * many), wanted)

    def test_ring_run(self):
        draw = random.Random(327)
        lengths = set()
        for house in HOUSES:
            edges, kinds = stand_edges(house), range(len(house[0]))
            for _ in range(12):
                told = self.drawn_ring(draw, edges, kinds)
                run = ring_run(house, told)
                self.assertEqual(run, ring_run(house, told))
                if not is_ring_by_rule(edges, told):
                    self.assertIsNone(run)
                    continue
                self.assertEqual(tuple(program[0] for program in run[0]), told)
                model = Model(house, run[0])
                self.assertEqual({model.step(person) for person in run[1]}, {"begin", "take", "wait"})
                many = len(told)
                waits = [one.waits for one in model.people]
                self.assertEqual(waits, [(person + 1) % many for person in range(many)])
                hall = led(house, run)
                self.assertEqual([hall.waits_for(person) for person in range(many)], waits)
                self.assertEqual([hall.kind_of(person) for person in range(many)], list(told))
                self.assertTrue(is_stuck(house, run))
                self.assertIs(is_standing_run(house, told[0], run), True)
                lengths.add(many)
        self.assertEqual(lengths, set(range(2, 11)))

    def drawn_ring(self, draw, edges, kinds):
        """Two to ten kinds; where it can be, there is an edge from each to the next one."""
        many = draw.randint(2, 10)
        told = [draw.choice(kinds)]
        while len(told) < many:
            told.append(draw.choice([other for one, other, _ in edges if one == told[-1]] or kinds))
        return tuple(told)

    def test_cross_couples_are_new(self):
        cross_couples(BOTH).clear()
        self.assertEqual(cross_couples(BOTH), [(0, 0)])


class TestFewest(unittest.TestCase):
    def test_few_standing(self):
        seen = set()
        for house in HOUSES:
            for kind in range(len(house[0])):
                few = few_standing(house, kind)
                self.assertEqual(few, least_walk(house, kind))
                seen.add(few)
                if few is None:
                    self.assertIsNone(few_run(house, kind))
        self.assertTrue({None, 2, 3, 4} <= seen, seen)

    def test_few_run(self):
        seen = set()
        for house in HOUSES:
            for kind in range(len(house[0])):
                run = few_run(house, kind)
                if run is None:
                    self.assertIsNone(least_walk(house, kind))
                    continue
                self.assertEqual(run, few_run(house, kind))
                self.assertEqual(len(run[0]), least_walk(house, kind))
                self.assertIs(is_standing_run(house, kind, run), True)
                model = Model(house, run[0])
                words = [model.step(person) for person in run[1]]
                self.assertEqual(set(words), {"begin", "take", "wait"})
                self.assertEqual([person for person in range(len(run[0])) if model.can_step(person)], [])
                self.assertEqual((run[0][0][0], model.people[0].kind, model.people[0].status), (kind, kind, "at"))
                seen.add(len(run[0]))
        self.assertTrue({2, 3, 4} <= seen)

    def test_who_is_only_raised_has_none(self):
        rows = ((("oust", "oust"), ("oust", "oust")), (("oust", "oust"), ("wait", "wait")))
        house = ((("a", True, 1), ("b", True, 1)), ("s",), (rows,))
        self.assertEqual([can_stand(house, 0), few_standing(house, 0), few_run(house, 0)], [True, None, None])
        self.assertEqual(few_standing(house, 1), 2)

    def test_few_ring(self):
        seen = set()
        for house in HOUSES:
            edges, kinds = stand_edges(house), range(len(house[0]))
            ring = few_ring(house)
            wanted = None
            for many in range(2, 6):
                tuples = [told for told in itertools.product(kinds, repeat=many) if is_ring_by_rule(edges, told)]
                if tuples:
                    wanted = tuples[0]
                    break
            if wanted is None:
                self.assertTrue(ring is None or len(ring) > 5)
            else:
                self.assertEqual(ring, wanted)
            self.assertIs(ring is None, all(few_standing(house, kind) is None for kind in kinds))
            seen.add(None if ring is None else len(ring))
        self.assertTrue({None, 2, 3, 4} <= seen, seen)

    def test_a_long_ring(self):
        # All five wait for the next one alone, and only the last one's word is another one.
        rows = [[("yield", "yield")] * 5 for _ in range(5)]
        for kind in range(5):
            rows[kind][(kind + 1) % 5] = ("wait", "yield") if kind != 3 else ("oust", "wait")
        kinds = tuple((name, True, index) for index, name in enumerate("abcde"))
        house = (kinds, ("s",), (tuple(tuple(row) for row in rows),))
        self.assertEqual(few_ring(house), (0, 1, 2, 3, 4))
        self.assertEqual([few_standing(house, kind) for kind in range(5)], [5] * 5)
        self.assertEqual(cross_couples(house), [])

    def test_the_least_of_two_rings(self):
        rows = [[("yield", "yield")] * 4 for _ in range(4)]
        rows[3][3] = rows[1][2] = ("wait", "wait")
        rows[2][1] = ("wait", "oust")
        house = (tuple((name, True, index) for index, name in enumerate("abcd")), ("s",), (tuple(tuple(row) for row in rows),))
        self.assertEqual(few_ring(house), (1, 2))
        self.assertEqual(cross_couples(house), [(1, 2), (3, 3)])


if __name__ == "__main__":
    unittest.main()
