"""[42] and [43]: held off by few, and what more words bring."""

import functools
import random
import unittest

from comesthrough.fewheld import cheap_plan, few_held, few_story, is_plan, plan_cost, short_plan
from comesthrough.growing import by_sorts, few_table, fewer_by
from comesthrough.hall import Hall
from comesthrough.held import held_plan
from comesthrough.runs import led
from comesthrough.stories import is_story, story_of
from tests.model import (
    drawn_plan, model_is_story, model_kept_edges, model_leads, model_moves, model_nodes_of, model_turns, persons_enough,
)
from tests.samples import WORDS, aged_houses, changed_leaves, changed_tuples, drawn_house, drawn_houses, junk

SMALL = (
    drawn_houses(420, 60, kinds=1) + drawn_houses(421, 60, kinds=2, sorts=1) + aged_houses(422, 40, kinds=2)
    + drawn_houses(423, 40, kinds=2, sorts=1, words=("yield", "oust"))
)
HOUSES = (
    SMALL + drawn_houses(424, 60) + aged_houses(425, 80) + drawn_houses(426, 30, words=("wait", "yield"))
    + aged_houses(427, 60, kinds=5, couples=(("oust", "yield"),) * 8 + (("wait", "yield"),) * 2 + (("yield", "wait"),))
)
BOTH = ((("a", True, 0),), ("s",), (((("wait", "wait"),),),))
MOVING = ((("a", False, 0),), ("s",), (((("yield", "wait"),),),))
KEPT = ((("a", True, 0),), ("s",), (((("wait", "yield"),),),))


def edge_cost(house, edge):
    return 2 if model_moves(house, edge[1]) else 1


def is_plan_by_rule(house, kind, plan):
    """Whether a tuple of a tuple of kinds and of two tuples of edges of the house is a plan of a kind."""
    raises, way, ring = plan
    walk = way + ring
    chained = all(one[1] == other[0] for one, other in zip(walk, walk[1:]))
    if raises != (kind,) or not ring or not chained or walk[0][0] not in model_nodes_of(house, kind):
        return False
    return ring[0][0] == ring[-1][1] and model_turns(house, ring)


def all_plans(house, kind, most):
    """All plans of a kind with at most so many edges."""
    edges = model_kept_edges(house)
    walks = [(edge,) for edge in edges if edge[0] in model_nodes_of(house, kind)]
    while walks:
        for walk in walks:
            for at in range(len(walk)):
                if is_plan_by_rule(house, kind, ((kind,), walk[:at], walk[at:])):
                    yield ((kind,), walk[:at], walk[at:])
        walks = [walk + (edge,) for walk in walks if len(walk) < most for edge in edges if edge[0] == walk[-1][1]]


def least_sum(house, kind, weigh, fewest):
    """The least sum of weigh(edge) over way and ring of all plans whose ring has at least so many edges; or None."""
    leads = model_leads(house)
    levels = {0: {(node, None, frozenset(), False, 0) for node in model_nodes_of(house, kind)}}
    for total in range(60):
        for here, start, words, moves, many in levels.get(total, set()):
            turns = words == {"elder", "younger"} or (moves and "younger" in words)
            if here == start and many >= fewest and turns:
                return total
            for edge in leads.get(here, []):
                later = levels.setdefault(total + weigh(edge), set())
                if start is None:
                    later.add((edge[1], None, words, moves, many))
                first = here if start is None else start
                later.add((edge[1], first, words | {edge[2]}, moves or model_moves(house, here), min(many + 1, 2)))
    return None


@functools.lru_cache(maxsize=20000)
def least_and_most(house, kind):
    least = least_sum(house, kind, lambda edge: 1, 2)
    return None if least is None else (least, 1 + least_sum(house, kind, lambda edge: edge_cost(house, edge), 1))


def with_other(house, place, word):
    """The house with a word at a place, made anew from its list."""
    sort, asker, holder, side = place
    rows = [[[list(couple) for couple in row] for row in table] for table in house[2]]
    rows[sort][asker][holder][side] = word
    return house[:2] + (tuple(tuple(tuple(tuple(couple) for couple in row) for row in table) for table in rows),)


def all_places(house):
    kinds = range(len(house[0]))
    return [(sort, p, q, side) for sort in range(len(house[1])) for p in kinds for q in kinds for side in (0, 1)]


class TestFewHeld(unittest.TestCase):
    def test_against_all_plans(self):
        seen = set()
        for house in SMALL:
            for kind in range(len(house[0])):
                plans = list(all_plans(house, kind, 5))
                few = few_held(house, kind)
                if not plans:
                    self.assertTrue(few is None or few[0] > 5)
                    continue
                least = min((len(way + ring) for _, way, ring in plans if len(ring) > 1), default=6)
                most = min(1 + sum(edge_cost(house, edge) for edge in way + ring) for _, way, ring in plans)
                self.assertEqual(few, (least, most))
                seen.add(few)
                seen.add(min(len(ring) for _, _, ring in plans))
        self.assertTrue({1, 2, (2, 3), (2, 4), (3, 4), (3, 5)} <= seen, seen)

    def test_against_least_sums(self):
        seen = set()
        for house in HOUSES:
            for kind in range(len(house[0])):
                few = few_held(house, kind)
                self.assertEqual(few, least_and_most(house, kind))
                seen.add(few)
        self.assertTrue({None, (2, 3), (2, 4), (3, 4), (3, 5), (4, 5)} <= seen, seen)

    def test_plans(self):
        single = 0
        for house in HOUSES:
            for kind in range(len(house[0])):
                few, short, cheap = few_held(house, kind), short_plan(house, kind), cheap_plan(house, kind)
                self.assertEqual((short, cheap), (short_plan(house, kind), cheap_plan(house, kind)))
                if few is None:
                    self.assertEqual((short, cheap, few_story(house, kind)), (None, None, None))
                    continue
                for plan in (short, cheap):
                    self.assertIs(is_plan(house, kind, plan), True)
                    self.assertTrue(is_plan_by_rule(house, kind, plan))
                    self.assertTrue(set(plan[1] + plan[2]) <= set(model_kept_edges(house)))
                self.assertEqual(len(short[1] + short[2]), few[0])
                self.assertGreaterEqual(len(short[2]), 2)
                self.assertEqual(plan_cost(house, cheap), few[1])
                self.assertGreaterEqual(plan_cost(house, short), few[1])
                single += len(cheap[2]) == 1
        self.assertGreater(single, 20)

    def test_plan_cost(self):
        draw = random.Random(428)
        costs = set()
        for house in HOUSES:
            plan = drawn_plan(draw, house, 0, 8)
            if plan is not None:
                cost = 1 + sum(edge_cost(house, edge) for edge in plan[1] + plan[2])
                self.assertEqual(plan_cost(house, ((0,),) + plan[1:]), cost)
                costs.add(cost - len(plan[1] + plan[2]))
        self.assertGreater(len(costs), 4)

    def test_a_ring_of_one_edge(self):
        edge = (("anew", 0), ("anew", 0), "younger")
        self.assertEqual(few_held(MOVING, 0), (2, 3))
        self.assertEqual(cheap_plan(MOVING, 0), ((0,), (), (edge,)))
        self.assertEqual(short_plan(MOVING, 0), ((0,), (), (edge, edge)))
        self.assertEqual([plan_cost(MOVING, ((0,), (edge,) * many, (edge,))) for many in (0, 1, 5)], [3, 5, 13])

    def test_few_story(self):
        sizes = set()
        for house in HOUSES:
            for kind in range(len(house[0])):
                few = few_held(house, kind)
                if few is None:
                    continue
                story = few_story(house, kind)
                self.assertEqual(story, few_story(house, kind))
                self.assertIs(is_story(house, kind, story), True)
                self.assertTrue(model_is_story(house, kind, story))
                self.assertLessEqual(len(story[0]), few[1])
                self.assertGreaterEqual(len(story[0]), few[0])
                self.assertEqual(led(house, story[:2]).kind_of(0), kind)
                steps = sum(len(row) for row in story[1:])
                self.assertLessEqual(steps, 100 * len(story[0]))
                sizes.add(len(story[0]))
        self.assertTrue({2, 3, 4} <= sizes, sizes)

    def test_who_is_only_raised_has_no_plan(self):
        rows = ((("oust", "oust"), ("oust", "oust")), (("oust", "oust"), ("wait", "wait")))
        house = ((("a", True, 1), ("b", True, 1)), ("s",), (rows,))
        self.assertEqual(held_plan(house, 0)[0], (0, 1))
        told = [call(house, 0) for call in (few_held, short_plan, cheap_plan, few_story)]
        self.assertEqual(told, [None] * 4)
        self.assertIs(is_plan(house, 0, held_plan(house, 0)), False)
        self.assertEqual(few_table(house), [None, (2, 3)])


class TestIsPlan(unittest.TestCase):
    def test_drawn_tuples(self):
        draw = random.Random(429)
        seen = {True: 0, False: 0}
        for house in HOUSES:
            edges = model_kept_edges(house)
            for kind in range(len(house[0])):
                plan = drawn_plan(draw, house, kind, 6)
                if plan is None:
                    continue
                self.assertIs(is_plan(house, kind, plan), len(plan[0]) == 1)
                _, way, ring = plan
                at = draw.randrange(len(ring))
                for thing in (
                    ((kind,), way, ring), ((kind,), ring, way), ((kind,), way, ring[1:]), ((kind,), way, ring[:-1]),
                    ((kind,), way[1:], ring), ((kind,), way[:-1], ring), ((kind,), way + ring, ring), ((kind,), (), ring),
                    ((kind,), way, ring + ring), ((kind,), way + ring[:at], ring[at:] + ring[:at]), ((kind,), way, ()),
                    ((kind,), way, ring[:at] + (draw.choice(edges),) + ring[at + 1:]), ((kind,), (draw.choice(edges),), ring),
                    ((kind, kind), way, ring), ((), way, ring), (((kind + 1) % len(house[0]),), way, ring),
                ):
                    for other in range(len(house[0])):
                        self.assertIs(is_plan(house, other, thing), is_plan_by_rule(house, other, thing))
                        seen[is_plan(house, other, thing)] += 1
        self.assertGreater(min(seen.values()), 500)

    def test_any_value(self):
        for house in (BOTH, MOVING):
            plan = short_plan(house, 0)
            self.assertIs(is_plan(house, 0, plan), True)
            for thing in junk() + [Hall(house), list(plan), [plan], plan[:2], plan + ((),), (plan,)]:
                self.assertIs(is_plan(house, 0, thing), False)
            spoilt = lambda leaf: [None, [], {}, -1, "x", bool(leaf), 10 ** 39, Hall(house)]
            for thing in changed_leaves(plan, spoilt):
                self.assertIs(is_plan(house, 0, thing), False)
            # Without the empty way there are only tuples that may not be exchanged.
            for thing in changed_tuples(plan[2], lambda part: [list(part), part + (None,), None, (part,), "", {}]):
                self.assertIs(is_plan(house, 0, (plan[0], (), thing)), False)
            for way in ([], None, "", {}, ((),), (None,), 0, False):
                self.assertIs(is_plan(house, 0, (plan[0], way, plan[2])), False)

    def test_a_left_out_edge(self):
        kinds = (("a", True, 0), ("b", False, 1))
        house = (kinds, ("s",), (((("yield", "yield"),) * 2,) * 2,))
        self.assertIs(is_plan(house, 0, ((0,), (), (
            (("anew", 0), ("anew", 1), "younger"), (("anew", 1), ("anew", 0), "elder")))), True)
        self.assertIs(is_plan(house, 0, ((0,), (), (
            (("anew", 0), ("anew", 1), "elder"), (("anew", 1), ("anew", 0), "younger")))), False)

    def test_stories_of_plans(self):
        for house in HOUSES:
            for plan in (short_plan(house, 0), cheap_plan(house, 0)):
                if plan is not None:
                    story = story_of(house, plan)
                    self.assertIs(is_story(house, 0, story), True)
                    self.assertLessEqual(len(story[0]), persons_enough(house, plan))
                    self.assertEqual(persons_enough(house, plan), plan_cost(house, plan))


class TestGrowing(unittest.TestCase):
    def test_few_table(self):
        for house in HOUSES:
            table = few_table(house)
            self.assertEqual(table, [least_and_most(house, kind) for kind in range(len(house[0]))])
            table.clear()
            self.assertEqual(len(few_table(house)), len(house[0]))

    def test_fewer_by(self):
        seen = set()
        houses = SMALL[::4] + aged_houses(430, 25, kinds=3) + aged_houses(431, 15, kinds=2, couples=(("oust", "wait"),))
        for house in houses:
            for kind in range(len(house[0])):
                few = least_and_most(house, kind)
                for most in range(1, 10):
                    told = fewer_by(house, kind, most)
                    if few is not None and few[0] <= most:
                        self.assertEqual(told, [])
                        continue
                    self.assertEqual(told, self.fewer_by_rule(house, kind, most))
                    seen.add((few is None, most, told == []))
        for most in range(2, 6):
            self.assertTrue({(True, most, False), (True, most, True)} <= seen)
        self.assertTrue({(True, 1, True), (False, 1, True), (False, 2, False), (False, 3, False), (True, 9, False)} <= seen)

    def fewer_by_rule(self, house, kind, most):
        found = []
        for place in all_places(house):
            for word in WORDS:
                sort, asker, holder, side = place
                if word != house[2][sort][asker][holder][side]:
                    few = least_and_most(with_other(house, place, word), kind)
                    if few is not None and few[0] <= most:
                        found.append((place, word))
        return sorted(found)

    def test_a_long_way(self):
        # Each kind waits for the next one alone; the last one's ring is closed by a word more.
        rows = [[("oust", "wait")] * 5 for _ in range(5)]
        kinds = tuple((name, True, index) for index, name in enumerate("abcde"))
        for kind in range(5):
            for other in range(kind):
                rows[kind][other] = ("oust", "yield")
            rows[kind][kind] = ("oust", "wait") if kind < 4 else ("wait", "yield")
        house = (kinds, ("s",), (tuple(tuple(row) for row in rows),))
        for most in range(1, 10):
            self.assertEqual(fewer_by(house, 0, most), self.fewer_by_rule(house, 0, most))

    def test_by_sorts(self):
        seen = set()
        houses = drawn_houses(432, 40, sorts=3, kinds=2, rising=False, words=("oust", "oust", "oust", "wait"))
        for house in HOUSES + houses + aged_houses(433, 60) + [self.aged_in_three_sorts(seed) for seed in range(60)]:
            many = len(house[1])
            lots = [()]
            for sort in range(many):
                lots += [lot + (sort,) for lot in lots]
            for kind in range(len(house[0])):
                good = []
                for lot in lots[1:]:
                    alone = (house[0], tuple(house[1][sort] for sort in lot), tuple(house[2][sort] for sort in lot))
                    if least_and_most(alone, kind) is not None:
                        good.append(lot)
                wanted = sorted(lot for lot in good if not any(set(other) < set(lot) for other in good))
                self.assertEqual(by_sorts(house, kind), wanted)
                self.assertEqual(by_sorts(house, kind) == [], few_held(house, kind) is None)
                seen |= set(wanted)
                seen.add(len(wanted))
        self.assertTrue({0, 1, 2, (0, 1), (0, 2), (1, 2)} <= seen, seen)

    def test_sorts_in_order(self):
        # The middle one alone, or both others; each of these has only one of the two words between nodes with "stand".
        judge = tuple((((words,),)) for words in (("wait", "yield"), ("wait", "wait"), ("oust", "wait")))
        house = ((("a", True, 0),), ("s", "t", "u"), judge)
        self.assertEqual(by_sorts(house, 0), [(0, 2), (1,)])

    def test_all_three_sorts(self):
        # One sort leads from a to b, the others have one word each of b's waiting for itself.
        apart = [[("oust", "yield"), ("oust", "oust")], [("yield", "yield"), ("oust", "yield")]]
        judge = []
        for at, couple in (((0, 1), ("wait", "oust")), ((1, 1), ("wait", "yield")), ((1, 1), ("oust", "wait"))):
            rows = [list(row) for row in apart]
            rows[at[0]][at[1]] = couple
            judge.append(tuple(tuple(row) for row in rows))
        house = ((("a", True, 0), ("b", True, 1)), ("s", "t", "u"), tuple(judge))
        self.assertEqual([by_sorts(house, kind) for kind in (0, 1)], [[(0, 1, 2)], [(1, 2)]])

    def aged_in_three_sorts(self, seed):
        """A house whose sorts have each its own style, so that often only several together hold a kind off."""
        draw = random.Random(seed)
        house = drawn_house(draw, kinds=3, sorts=3, rising=False, renewing=False)
        styles = [("oust", "wait"), ("wait", "oust"), ("yield", "wait"), ("wait", "yield"), ("oust", "yield")]
        judge = []
        for _ in range(3):
            style = draw.choice(styles)
            rows = [[("oust", "yield") if draw.random() < 0.7 else style for _ in range(3)] for _ in range(3)]
            judge.append(tuple(tuple(row) for row in rows))
        return house[:2] + (tuple(judge),)

    def test_new_each_time(self):
        fewer_by(KEPT, 0, 2).clear()
        by_sorts(BOTH, 0).clear()
        self.assertEqual(fewer_by(KEPT, 0, 2), [((0, 0, 0, 0), "yield"), ((0, 0, 0, 1), "wait")])
        self.assertEqual(by_sorts(BOTH, 0), [(0,)])


if __name__ == "__main__":
    unittest.main()
