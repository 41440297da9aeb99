"""[30]: standing still."""

import random
import unittest

from comesthrough.casts import eldest_first
from comesthrough.errors import BadStep
from comesthrough.hall import Hall
from comesthrough.houses import raised_kinds
from comesthrough.knots import knots_of
from comesthrough.nodes import all_nodes
from comesthrough.runs import is_run, is_stuck, led, words_of
from comesthrough.standing import (
    can_stand, is_standing_run, ring_of, ring_words, standing_kinds, standing_run, waits_behind,
)
from tests.model import Model, drawn_run, model_kept_edges, model_reach, tight_run
from tests.samples import changed_leaves, changed_tuples, drawn_house, drawn_houses, junk, refusal

WAITS = ((("k", True, 0),), ("s",), (((("wait", "wait"),),),))
YIELDS = ((("k", True, 0),), ("s",), (((("yield", "yield"),),),))
HOUSES = drawn_houses(60, 250) + drawn_houses(61, 150, kinds=5, sorts=1)
# Here the kinds that rise cannot stand themselves: who asks them, or is one, puts out or is put out.
RISING = [
    ((("a", keeps, 1), ("b", other, 2), ("c", True, 2)), ("s",), (((first, first, second), (second, first, first), (
        third, third, ("wait", "wait"))),))
    for keeps in (True, False) for other in (True, False)
    for first in (("yield", "yield"), ("oust", "yield"), ("yield", "oust"), ("oust", "oust"))
    for second in (("yield", "oust"), ("oust", "yield"), ("oust", "oust"))
    for third in (("oust", "yield"), ("yield", "oust"), ("yield", "yield"), ("wait", "yield"))
]


def stands_by_rule(house, kind):
    """What [30] says of can_stand, by the graph."""
    edges = [edge for edge in model_kept_edges(house) if edge[0][0] == "stand"]
    reach = model_reach(edges, all_nodes(house))
    both = set()
    for start in {edge[0] for edge in edges}:
        knot = {node for node in all_nodes(house) if {(start, node), (node, start)} <= reach}
        words = {edge[2] for edge in edges if edge[0] in knot and edge[1] in knot}
        both |= knot if len(words) == 2 else set()
    starts = [("stand", raised) for raised in raised_kinds(house, kind)]
    return any(start in both or any((start, node) in reach for node in both) for start in starts)


def ring_by_rule(waits, person):
    """Whoever waits is led round often enough to be in the ring, or to come to one that does not wait."""
    here = person
    for _ in range(100):
        if here not in waits:
            return None
        here = waits[here]
    ring = [here]
    while waits[ring[-1]] != here:
        ring.append(waits[ring[-1]])
    least = ring.index(min(ring))
    return ring[least:] + ring[:least]


def ring_run(*order):
    """Persons, one for each of order, who begin in this order and wait for each other in a ring: 0 for 1, and so on."""
    many = len(order)
    programs = tuple((0, ((0, person), (0, (person + 1) % many))) for person in range(many))
    return (programs, tuple(order) + tuple(order) + tuple(order))


class TestWaits(unittest.TestCase):
    def test_drawn_runs(self):
        draw = random.Random(62)
        rings = set()
        for _ in range(400):
            house = drawn_house(draw, kinds=draw.randint(1, 2), sorts=1, words=("wait", "wait", "yield"))
            run = drawn_run(draw, house, draw.randint(2, 6), 60, 4, 4)
            model = Model(house, run[0])
            for person in run[1]:
                model.step(person)
            waits = {person: one.waits for person, one in enumerate(model.people) if one.waits is not None}
            self.assertEqual(waits_behind(house, run), waits)
            self.assertEqual(list(waits_behind(house, run)), sorted(waits))
            for person in range(len(run[0])):
                ring = ring_by_rule(waits, person)
                self.assertEqual(ring_of(house, run, person), ring)
                words = ring_words(house, run, person)
                if ring is None:
                    self.assertIsNone(words)
                    continue
                ages = [model.order.index(one) for one in ring]
                wanted = ["elder" if after < age else "younger" for age, after in zip(ages, ages[1:] + ages[:1])]
                self.assertEqual(words, wanted)
                self.assertEqual(set(words), {"elder", "younger"})
                rings.add((len(ring), person in ring))
        self.assertTrue({(2, True), (2, False), (3, True), (3, False)} <= rings, rings)

    def test_told_rings(self):
        run = ring_run(0, 1, 2)
        self.assertEqual(waits_behind(WAITS, run), {0: 1, 1: 2, 2: 0})
        for person in range(3):
            self.assertEqual(ring_of(WAITS, run, person), [0, 1, 2])
            self.assertEqual(ring_words(WAITS, run, person), ["younger", "younger", "elder"])
        run = ring_run(3, 1, 0, 2)
        self.assertEqual(ring_words(WAITS, run, 2), ["elder", "younger", "elder", "younger"])

    def test_from_the_least_one_on(self):
        programs = ((0, ((0, 7), (0, 5))), (0, ((0, 5), (0, 8))), (0, ((0, 6), (0, 5))), (0, ((0, 8), (0, 6))), (0, ((0, 7),)))
        run = (programs, (4, 3, 2, 1, 0, 0, 1, 2, 3, 3, 1, 2, 0, 4))
        self.assertEqual(waits_behind(WAITS, run), {0: 1, 1: 3, 2: 1, 3: 2, 4: 0})
        for person in range(5):
            self.assertEqual(ring_of(WAITS, run, person), [1, 3, 2])
            self.assertEqual(ring_words(WAITS, run, person), ["elder", "younger", "younger"])

    def test_who_does_not_wait(self):
        programs = ((0, ((0, 1), "work")), (0, ((0, 1),)), (0, ((0, 2), (0, 1))), (0, ((0, 2),)), (0, ("work",)))
        run = (programs, (0, 0, 1, 1, 2, 2, 2, 3, 3, 4, 4))
        self.assertEqual(waits_behind(WAITS, run), {1: 0, 2: 0, 3: 2})
        for person in range(5):
            self.assertIsNone(ring_of(WAITS, run, person))
            self.assertIsNone(ring_words(WAITS, run, person))

    def test_bad_steps(self):
        good = ring_run(0, 1)
        for at in range(len(good[1]) + 1):
            row = good[1][:at] + (0, 0, 0, 0) + good[1][at:]
            model = Model(WAITS, good[0])
            index = 0
            while model.can_step(row[index]):
                model.step(row[index])
                index += 1
            for refused in (
                refusal(waits_behind, WAITS, (good[0], row)), refusal(ring_of, WAITS, (good[0], row), 0),
                refusal(ring_words, WAITS, (good[0], row), 1),
            ):
                self.assertEqual((refused.__class__, refused.index), (BadStep, index))

    def test_new_each_time(self):
        run = ring_run(0, 1)
        waits_behind(WAITS, run).clear()
        ring_of(WAITS, run, 0).clear()
        ring_words(WAITS, run, 0).clear()
        self.assertEqual((waits_behind(WAITS, run), ring_of(WAITS, run, 0)), ({0: 1, 1: 0}, [0, 1]))
        self.assertEqual(ring_words(WAITS, run, 0), ["younger", "elder"])


class TestStandingRuns(unittest.TestCase):
    def test_is_standing_run(self):
        draw = random.Random(63)
        seen = set()
        for _ in range(300):
            house = drawn_house(draw, kinds=2, sorts=1, words=("wait", "wait", "oust"))
            run = tight_run(draw, house)
            hall = led(house, run)
            for kind in (0, 1):
                wanted = run[0][0][0] == kind and not hall.is_ended(0) and hall.steppers() == []
                self.assertIs(is_standing_run(house, kind, run), wanted)
                seen.add((run[0][0][0] == kind, hall.is_ended(0), hall.steppers() == []))
        self.assertTrue({(True, False, True), (False, False, True), (True, True, True), (True, False, False)} <= seen)

    def test_the_kind_at_the_beginning_counts(self):
        kinds = (("a", True, 1), ("b", True, 1))
        house = (kinds, ("s",), (((("yield", "yield"),) * 2, (("wait", "wait"),) * 2),))
        programs = ((0, ((0, 1), (0, 2))), (1, ((0, 2), (0, 1))))
        run = (programs, (0, 1, 1, 0, 0, 0, 0, 0, 1))
        self.assertEqual(words_of(house, run)[-5:], ["yield", "begin", "take", "wait", "wait"])
        self.assertEqual([is_standing_run(house, kind, run) for kind in (0, 1)], [True, False])

    def test_any_value(self):
        run = ring_run(0, 1)
        self.assertIs(is_standing_run(WAITS, 0, run), True)
        for thing in junk() + [Hall(WAITS), led(WAITS, run), ((), ()), ((), (), ()), run + ((),), list(run), run[:1]]:
            self.assertIs(is_standing_run(WAITS, 0, thing), False)
        for thing in changed_leaves(run, lambda leaf: [None, [], {}, -1, "x", bool(leaf)]):
            self.assertIs(is_standing_run(WAITS, 0, thing), False)
        for thing in changed_tuples(run, lambda part: [list(part), part + (None,), None, (part,), ""]):
            self.assertIs(is_standing_run(WAITS, 0, thing), False)

    def test_nobody_can_step_but_all_are_ended(self):
        run = (((0, ("work",)),), (0, 0))
        self.assertIs(is_standing_run(WAITS, 0, run), False)
        self.assertIs(is_standing_run(WAITS, 0, ((*run[0], *ring_run(0, 1)[0]), (0, 0, 1, 2, 1, 2, 1, 2))), False)

    def test_can_stand_by_the_graph(self):
        seen = set()
        for house in HOUSES + RISING:
            kinds = range(len(house[0]))
            for kind in kinds:
                self.assertIs(can_stand(house, kind), stands_by_rule(house, kind))
                seen.add((can_stand(house, kind), len(raised_kinds(house, kind)) > 1))
            self.assertEqual(standing_kinds(house), [kind for kind in kinds if stands_by_rule(house, kind)])
        self.assertEqual(len(seen), 4)

    def test_standing_run(self):
        rises, words = set(), set()
        for house in HOUSES + RISING:
            for kind in range(len(house[0])):
                run = standing_run(house, kind)
                self.assertEqual(run, standing_run(house, kind))
                if not can_stand(house, kind):
                    self.assertIsNone(run)
                    continue
                self.assertIs(is_run(house, run), True)
                self.assertIs(is_standing_run(house, kind, run), True)
                self.assertIs(is_stuck(house, run), True)
                model = Model(house, run[0])
                for person in run[1]:
                    self.assertTrue(model.can_step(person))
                    word = model.step(person)
                    words.add(word)
                self.assertFalse([person for person in range(len(run[0])) if model.can_step(person)])
                self.assertEqual((run[0][0][0], model.people[0].status), (kind, "at"))
                rises.add(raised_kinds(house, kind).index(model.people[0].kind))
        self.assertTrue({0, 1, 2} <= rises, rises)
        self.assertEqual(words, {"begin", "take", "work", "wait", "yield", "oust"})

    def test_raised_in_each_way(self):
        seen = set()
        for house in RISING:
            run = standing_run(house, 0)
            if run is None:
                continue
            model = Model(house, run[0])
            for person in run[1]:
                if model.people[person].status == "at":
                    lock = model.lock_at(person)
                    holder = None if lock is None else model.holder(lock)
                    if holder is not None:
                        elder = model.order.index(person) < model.order.index(holder)
                        kinds = (model.people[person].kind, model.people[holder].kind)
                        word = house[2][0][kinds[0]][kinds[1]][0 if elder else 1]
                        seen.add((word, elder, person == 0))
                model.step(person)
        wanted = {("yield", elder, True) for elder in (True, False)} | {("oust", elder, False) for elder in (True, False)}
        self.assertTrue(wanted <= seen, seen)

    def test_nobody_stands_who_cannot(self):
        draw = random.Random(64)
        stuck = 0
        for _ in range(500):
            house = drawn_house(draw, kinds=draw.randint(1, 3), sorts=1, words=("wait", "wait", "yield", "oust"))
            run = tight_run(draw, house)
            if not led(house, run).steppers():
                for kind in range(len(house[0])):
                    if is_standing_run(house, kind, run):
                        self.assertIs(can_stand(house, kind), True)
                        stuck += 1
        self.assertGreater(stuck, 20)

    def test_one_kind(self):
        for elder in ("wait", "yield", "oust"):
            for younger in ("wait", "yield", "oust"):
                house = ((("k", True, 0),), ("s",), ((((elder, younger),),),))
                self.assertIs(can_stand(house, 0), (elder, younger) == ("wait", "wait"))
        house = ((("k", True, 0),), ("s", "t"), (((("wait", "yield"),),), ((("oust", "wait"),),)))
        self.assertEqual((standing_kinds(house), len(standing_run(house, 0)[0])), ([0], 2))

    def test_a_way_into_the_ring(self):
        row = (("yield", "yield"),)
        judge = ((row + (("wait", "yield"),) + row, row * 2 + (("yield", "wait"),), row * 2 + (("wait", "wait"),)),)
        house = ((("a", True, 0), ("b", False, 1), ("c", True, 2)), ("s",), judge)
        self.assertEqual(standing_kinds(house), [0, 1, 2])
        self.assertEqual(knots_of(house)[-1], (("stand", 2),))
        run = standing_run(house, 0)
        self.assertEqual([program[0] for program in run[0]], [0, 1, 2, 2])
        self.assertEqual(len(ring_of(house, run, 0)), 2)

    def test_eldest_first(self):
        couples = [(1, 4), (4, 0), (3, 1), (2, 0), (7, 3), (0, 8)]
        order = eldest_first([0, 1, 2, 3, 4], couples)
        self.assertEqual(sorted(order), [0, 1, 2, 3, 4])
        for elder, younger in couples[:4]:
            self.assertLess(order.index(elder), order.index(younger))


if __name__ == "__main__":
    unittest.main()
