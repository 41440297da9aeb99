"""[50]: orders in which locks are taken, and who can be held off though all keep to one."""

import itertools
import random
import unittest

from comesthrough.errors import NotMeek
from comesthrough.hall import Hall
from comesthrough.orders import (
    bad_knots, can_be_held_by, first_unordered, held_by_order, is_held_by, is_order, order_edges, order_knots, row_order,
    spots_of,
)
from comesthrough.runs import led
from comesthrough.stories import is_story
from tests.model import model_is_held, model_is_story, model_moves
from tests.ordermodel import (
    HOUSES, is_ordered_by_rule, model_can_be_held_by, model_order_edges, model_order_knots, model_spots,
)
from tests.samples import changed_leaves, changed_tuples, drawn_program, junk, refusal

WAIT = ((((("wait", "wait"),),), ((("wait", "wait"),),)))
HOUSE = ((("k", True, 0),), ("s", "t"), WAIT)


class TestOrders(unittest.TestCase):
    def test_is_order(self):
        for many in (1, 2, 3):
            house = (HOUSE[0], ("s", "t", "u")[:many], WAIT[:1] * many)
            couples = list(itertools.product(range(many), repeat=2))
            for size in range(len(couples) + 1):
                for lot in itertools.combinations(couples, size):
                    self.assertIs(is_order(house, lot), True)
                    if size > 1:
                        self.assertIs(is_order(house, lot[::-1]), False)
                        self.assertIs(is_order(house, lot + lot[-1:]), False)
                        self.assertIs(is_order(house, lot[1:] + lot[:1]), False)
                    self.assertIs(is_order(house, lot + ((0, many),)), False)
                    self.assertIs(is_order(house, ((-1, 0),) + lot), False)
                    self.assertIs(is_order(house, lot + ((many, 0),)), False)

    def test_is_order_of_any_value(self):
        for thing in junk():
            self.assertIs(is_order(HOUSE, thing), thing == () and isinstance(thing, tuple), thing)
        order = ((0, 0), (0, 1), (1, 0))
        self.assertIs(is_order(HOUSE, order), True)
        for thing in changed_leaves(order, lambda leaf: [None, [], {}, -1, "x", bool(leaf), 10 ** 39, str(leaf), (leaf,)]):
            self.assertIs(is_order(HOUSE, thing), False, thing)
        for thing in changed_tuples(order, lambda part: [list(part), part + (None,), None, (part,), "", {}, part + (0,)]):
            self.assertIs(is_order(HOUSE, thing), False, thing)
        for thing in (Hall(HOUSE), [order], [[0, 0]], {(0, 0): True}, {(0, 0)}, ((0, 0, 0),), ((0,),), ("ab",), ((0, 0), "ab")):
            self.assertIs(is_order(HOUSE, thing), False, thing)

    def test_is_order_of_houses_that_are_not_meek(self):
        house = (HOUSE[0], HOUSE[1], (WAIT[0], ((("oust", "wait"),),)))
        self.assertIs(is_order(house, ((0, 1),)), True)
        self.assertIs(is_order(house, ((1, 0), (0, 1))), False)
        self.assertEqual(row_order(house, (1, 0)), ((1, 0),))

    def test_first_unordered(self):
        draw = random.Random(506)
        seen = set()
        for house, order in HOUSES:
            for _ in range(8):
                program = drawn_program(draw, house, 3, 6)
                deeds = program[1]
                wanted = None
                for index in range(len(deeds) - 1, -1, -1):
                    if not is_ordered_by_rule(order, (0, deeds[:index + 1])):
                        wanted = index
                self.assertEqual(first_unordered(order, program), wanted)
                seen.add(wanted)
        self.assertEqual(seen, {None, 1, 2, 3, 4, 5})

    def test_first_unordered_is_about_all_locks_ahead(self):
        program = (0, ((0, 1), "work", (1, 1), "work", (2, 1), (1, 2)))
        every = tuple(itertools.product(range(3), repeat=2))
        for missing, wanted in (
            ((0, 1), 2), ((1, 2), 4), ((0, 2), 4), ((2, 1), 5), ((1, 1), 5), ((0, 0), None), ((1, 0), None), ((2, 2), None),
        ):
            order = tuple(couple for couple in every if couple != missing)
            self.assertEqual(first_unordered(order, program), wanted)
        self.assertIsNone(first_unordered((), (0, ("work", (0, 1), "work"))))
        self.assertEqual(first_unordered((), (0, ((0, 1), (0, 0)))), 1)

    def test_row_order(self):
        for many in range(4):
            for row in itertools.permutations(range(3), many):
                wanted = tuple(sorted((one, other) for at, one in enumerate(row) for other in row[at + 1:]))
                self.assertEqual(row_order((HOUSE[0], ("s", "t", "u"), WAIT[:1] * 3), row), wanted)
        self.assertEqual(row_order(HOUSE, ()), ())
        self.assertEqual(row_order(HOUSE, (1, 0)), ((1, 0),))

    def test_by_a_row_order_nobody_is_held_off(self):
        for house, _ in HOUSES[::4]:
            for row in itertools.permutations(range(len(house[1]))):
                order = row_order(house, row)
                self.assertEqual(bad_knots(house, order), [])
                self.assertEqual([kind for kind in range(len(house[0])) if can_be_held_by(house, order, kind)], [])


class TestSpots(unittest.TestCase):
    def test_spots_and_edges(self):
        seen = set()
        for house, order in HOUSES:
            self.assertEqual(spots_of(house), model_spots(house))
            edges = order_edges(house, order)
            self.assertEqual(edges, list(model_order_edges(house, order)))
            seen |= {(one[0], other[0], word, model_moves(house, one), model_moves(house, other)) for one, other, word in edges}
            edges.clear()
            spots_of(house).clear()
            self.assertEqual(order_edges(house, order), list(model_order_edges(house, order)))
        for word in ("elder", "younger"):
            self.assertTrue({("stand", "stand", word, False, False), ("anew", "anew", word, True, True)} <= seen)
            self.assertTrue({("anew", "anew", word, False, False), ("anew", "stand", word, False, False)} <= seen)
        self.assertTrue({("anew", "anew", "younger", False, True), ("anew", "anew", "elder", True, False)} <= seen)
        self.assertFalse({("anew", "anew", "elder", False, True), ("anew", "stand", "younger", True, False)} & seen)

    def test_knots(self):
        seen = set()
        for house, order in HOUSES:
            knots, bad, _ = model_order_knots(house, order)
            self.assertEqual(order_knots(house, order), knots)
            self.assertEqual(bad_knots(house, order), bad)
            seen |= {(min(len(knot), 4), knot in bad) for knot in knots}
            order_knots(house, order).clear()
            bad_knots(house, order).clear()
            self.assertEqual(order_knots(house, order), knots)
        self.assertTrue({(many, told) for many in (1, 2, 3, 4) for told in (True, False)} <= seen, seen)

    def test_the_example(self):
        order = ((0, 0), (0, 1), (1, 0))
        self.assertEqual(order_knots(HOUSE, order), [(("stand", 0, 0), ("stand", 0, 1))])
        self.assertEqual(bad_knots(HOUSE, order), [(("stand", 0, 0), ("stand", 0, 1))])
        self.assertEqual(order_knots(HOUSE, ((0, 1),)), [])
        self.assertEqual(order_knots(HOUSE, ((0, 0),)), [(("stand", 0, 0),)])
        self.assertEqual([spot for spot in spots_of(HOUSE) if spot[2] == -1], [("anew", 0, -1), ("stand", 0, -1)])
        self.assertEqual([edge for edge in order_edges(HOUSE, order) if edge[1][2] == -1], [])

    def test_edges_of_sorts_without_a_couple(self):
        self.assertEqual(order_edges(HOUSE, ()), [
            (("stand", 0, -1), ("stand", 0, sort), word) for sort in (0, 1) for word in ("elder", "younger")
        ])


class TestHeldByOrder(unittest.TestCase):
    def test_can_be_held_by(self):
        seen = set()
        for house, order in HOUSES:
            for kind in range(len(house[0])):
                wanted = model_can_be_held_by(house, order, kind)
                self.assertIs(can_be_held_by(house, order, kind), wanted)
                seen.add((wanted, model_is_held(house, kind)))
                every = tuple(itertools.product(range(len(house[1])), repeat=2))
                self.assertIs(can_be_held_by(house, every, kind), model_is_held(house, kind))
                self.assertIs(can_be_held_by(house, (), kind), False)
        self.assertEqual(seen, {(True, True), (False, True), (False, False)})

    def test_held_by_order(self):
        seen = {}
        for house, order in HOUSES:
            for kind in range(len(house[0])):
                story = held_by_order(house, order, kind)
                self.assertEqual(story, held_by_order(house, order, kind))
                if not model_can_be_held_by(house, order, kind):
                    self.assertIsNone(story)
                    continue
                self.assertTrue(model_is_story(house, kind, story))
                self.assertIs(is_story(house, kind, story), True)
                for program in story[0]:
                    self.assertTrue(is_ordered_by_rule(order, program))
                    self.assertIsNone(first_unordered(order, program))
                self.assertIs(is_held_by(house, order, kind, story), True)
                self.assertLessEqual(sum(map(len, story[1:])), 100 * len(story[0]))
                told = (len(story), len(order) == len(house[1]) ** 2)
                seen[told] = seen.get(told, 0) + 1
        self.assertEqual(sorted(seen), [(2, False), (2, True), (3, False), (3, True)])
        self.assertGreater(min(seen.values()), 10)

    def test_is_held_by(self):
        draw = random.Random(507)
        seen = {True: 0, False: 0}
        for house, order in HOUSES[::3]:
            every = tuple(itertools.product(range(len(house[1])), repeat=2))
            for kind in range(len(house[0])):
                story = held_by_order(house, every, kind)
                if story is None:
                    continue
                for other in (order, every, (), tuple(couple for couple in every if draw.random() < 0.8)):
                    wanted = all(is_ordered_by_rule(other, program) for program in story[0])
                    self.assertIs(is_held_by(house, other, kind, story), wanted)
                    seen[wanted] += 1
                # One more program, which is ended or never begins, has to be ordered, too.
                locks = ((len(house[1]) - 1, 90), (0, 91))
                more = (story[0] + ((kind, locks),), story[1] + (len(story[0]),) * 3) + story[2:]
                self.assertIs(is_story(house, kind, more), True)
                for couple in every:
                    other = tuple(one for one in every if one != couple)
                    wanted = all(is_ordered_by_rule(other, program) for program in more[0])
                    self.assertIs(is_held_by(house, other, kind, more), wanted)
                self.assertIs(is_held_by(house, every, kind, more), True)
                for other in range(len(house[0])):
                    self.assertIs(is_held_by(house, every, other, story), other == kind)
                shorter = story[:1] + (story[1][:-1],) + story[2:]
                self.assertIs(is_held_by(house, every, kind, shorter), model_is_story(house, kind, shorter))
        self.assertGreater(min(seen.values()), 100)

    def test_any_value(self):
        order = ((0, 0), (0, 1), (1, 0))
        yields = (HOUSE[0], HOUSE[1], ((((("yield", "yield"),),),) * 2))
        for house in (HOUSE, yields):
            story = held_by_order(house, order, 0)
            self.assertIs(is_held_by(house, order, 0, story), True)
            for thing in junk() + [Hall(house), led(house, story[:2]), ((), ()), ((), (), ()), list(story), [story], story[0]]:
                self.assertIs(is_held_by(house, order, 0, thing), False)
            for thing in changed_leaves(story, lambda leaf: [None, [], {}, -1, "x", bool(leaf), 10 ** 39]):
                self.assertIs(is_held_by(house, order, 0, thing), False)
            for thing in changed_tuples(story, lambda part: [list(part), part + (None,), None, (part,), "", {}]):
                self.assertIs(is_held_by(house, order, 0, thing), False)

    def test_not_meek(self):
        ousts = (HOUSE[0], HOUSE[1], (WAIT[0], ((("wait", "oust"),),)))
        rises = ((("a", True, 1), ("b", True, 1)), ("s",), ((((("wait", "wait"),) * 2,) * 2),))
        story = held_by_order(HOUSE, ((0, 0),), 0)
        for house in (ousts, rises):
            for call, told in (
                (spots_of, ()), (order_edges, (((0, 0),),)), (order_knots, (((0, 0),),)), (bad_knots, (((0, 0),),)),
                (can_be_held_by, (((0, 0),), 0)), (held_by_order, (((0, 0),), 0)), (is_held_by, (((0, 0),), 0, story)),
                (can_be_held_by, ((), 0)), (held_by_order, ((), 0)), (is_held_by, ((), 0, None)), (is_held_by, ((), 0, [])),
            ):
                self.assertIsInstance(refusal(call, house, *told), NotMeek, call)
            self.assertIsNone(refusal(is_order, house, ((0, 0),)))
            self.assertIsNone(refusal(row_order, house, (0,)))
        for house, order in HOUSES:
            self.assertIsNone(refusal(spots_of, house))
            self.assertIsNone(refusal(can_be_held_by, house, order, 0))

    def test_who_can_be_held_by_its_first_lock(self):
        # Locks of the sort s are taken ahead of those of t; a waits in s alone, and b in a ring in t.
        apart = ("yield", "yield")
        judge = (((("wait", "yield"), ("wait", "yield")), (apart, apart)), ((apart, apart), (apart, ("wait", "wait"))))
        house = ((("a", True, 0), ("b", True, 1)), ("s", "t"), judge)
        for order in itertools.chain.from_iterable(
            itertools.combinations(list(itertools.product((0, 1), repeat=2)), many) for many in range(5)
        ):
            for kind in (0, 1):
                self.assertIs(can_be_held_by(house, order, kind), model_can_be_held_by(house, order, kind))
                self.assertIs(held_by_order(house, order, kind) is None, not model_can_be_held_by(house, order, kind))


if __name__ == "__main__":
    unittest.main()
