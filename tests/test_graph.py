"""[7], [25], [26] and [27]: nodes, edges, knots and walks."""

import itertools
import random
import unittest

from comesthrough.hall import Hall
from comesthrough.houses import with_keeps, with_rise, with_word
from comesthrough.knots import is_bad, is_knot, is_young, knot_edges, knot_of, knots_of, words_in
from comesthrough.nodes import (
    all_nodes, edges_of, is_moving, is_node, left_out, next_nodes, nodes_ahead, places_of_edge,
)
from comesthrough.walks import bad_way, end_of, is_turning, is_walk, turning_walk, way_to
from tests.model import (
    model_edges, model_is_bad, model_is_left_out, model_kept_edges, model_knots, model_moves, model_reach,
)
from tests.samples import changed_leaves, changed_tuples, drawn_houses, junk, nested_list, spoilt_leaf

HOUSES = drawn_houses(40, 200) + drawn_houses(41, 100, kinds=2) + drawn_houses(42, 60, words=("wait", "yield"), sorts=1)
HOUSES += drawn_houses(43, 60, kinds=1, sorts=1) + drawn_houses(44, 60, rising=False, sorts=1)
SMALL = drawn_houses(45, 80, kinds=1) + drawn_houses(46, 80, kinds=2, sorts=1, rising=False)
AGES = ("elder", "younger")


def house_of(keeps, rises, words):
    """A house of one sort; words is a dict from (asker, holder) to the two words, ("wait", "wait") if there is none."""
    many = len(rises)
    kinds = tuple(("abcde"[kind], keeps[kind], rises[kind]) for kind in range(many))
    row = [tuple(words.get((asker, holder), ("wait", "wait")) for holder in range(many)) for asker in range(many)]
    return (kinds, ("s",), (tuple(row),))


def nodes_by_rule(house):
    last = [("anew", kind) for kind in range(len(house[0])) if house[0][kind][2] == kind]
    return last + [("stand", kind) for kind in range(len(house[0]))]


def walks_from(house, node, most):
    """All walks of at most so many edges that begin at a node, shorter ones first."""
    edges = model_kept_edges(house)
    front = [()]
    for _ in range(most + 1):
        yield from front
        front = [walk + (edge,) for walk in front for edge in edges if edge[0] == (walk[-1][1] if walk else node)]


def turns_by_rule(house, walk):
    words = {edge[2] for edge in walk}
    nodes = [node for edge in walk for node in edge[:2]]
    return len(words) == 2 or ("younger" in words and any(model_moves(house, node) for node in nodes))


class TestNodes(unittest.TestCase):
    def test_all_nodes(self):
        for house in HOUSES:
            self.assertEqual(all_nodes(house), nodes_by_rule(house))
            self.assertEqual(all_nodes(house), sorted(all_nodes(house)))
            all_nodes(house).clear()
            self.assertEqual(all_nodes(house), nodes_by_rule(house))

    def test_is_node(self):
        for house in HOUSES[:60]:
            for name in ("anew", "stand"):
                for kind in range(-1, 6):
                    self.assertIs(is_node(house, (name, kind)), (name, kind) in nodes_by_rule(house))
            for thing in junk() + [("stand", True), ("stand", False), ["stand", 0], ("stand",), ("stand", 0, 0), (0, "stand")]:
                if thing not in (("stand", 0), ("anew", 0)) or isinstance(thing, list):
                    self.assertIs(is_node(house, thing), False)
            for thing in changed_leaves(("stand", 0), spoilt_leaf):
                self.assertIs(is_node(house, thing), False)
            for thing in (("Stand", 0), ("anew ", 0), ("", 0), ("elder", 0), (("stand", 0),), Hall(house)):
                self.assertIs(is_node(house, thing), False)

    def test_moving(self):
        for house in HOUSES:
            for node in all_nodes(house):
                self.assertIs(is_moving(house, node), model_moves(house, node))
        house = house_of([False, True], [0, 1], {})
        self.assertEqual([is_moving(house, node) for node in all_nodes(house)], [True, False, False, False])


class TestEdges(unittest.TestCase):
    def test_one_word_of_two_last_kinds(self):
        wanted = {
            ("wait", 0): [(("stand", 0), ("stand", 1), "younger")],
            ("wait", 1): [(("stand", 0), ("stand", 1), "elder")],
            ("yield", 0): [(("anew", 0), ("anew", 1), "younger"), (("anew", 0), ("stand", 1), "younger")],
            ("yield", 1): [(("anew", 0), ("anew", 1), "elder"), (("anew", 0), ("stand", 1), "elder")],
            ("oust", 0): [(("anew", 1), ("anew", 0), "elder")],
            ("oust", 1): [(("anew", 1), ("anew", 0), "younger")],
        }
        blank = house_of([True, True], [0, 1], {(0, 0): ("oust", "oust"), (1, 0): ("oust", "oust"), (1, 1): ("oust", "oust")})
        ours = [edge for edge in model_edges(blank) if edge[:2] in ((("anew", 1), ("anew", 0)), (("anew", 0), ("anew", 1)))]
        self.assertTrue(ours)
        for (word, side), edges in wanted.items():
            # At the other side and at all other places stands a word whose edges are told apart by their places.
            place = (0, 0, 1, side)
            house = with_word(blank, place, word)
            for edge in edges:
                self.assertIn(edge, edges_of(house))
                self.assertIn(place, places_of_edge(house, *edge))
            found = [
                (node, other, age) for node in all_nodes(house) for other in all_nodes(house) for age in AGES
                if place in places_of_edge(house, node, other, age)
            ]
            self.assertEqual(found, sorted(edges))

    def test_what_rises_has_no_anew(self):
        for rises, words, wanted in (
            ([1, 1], ("yield", "yield"), []),
            ([1, 1], ("oust", "oust"), []),
            ([1, 1], ("wait", "yield"), [(("stand", 0), ("stand", 1), "younger")]),
        ):
            house = house_of([True, True], rises, {(0, 1): words})
            self.assertEqual([edge for edge in edges_of(house) if edge[0][1] != edge[1][1] and edge[0][1] == 0], wanted)
        house = house_of([True, True], [1, 1], {(1, 0): ("yield", "yield"), (1, 1): ("oust", "wait"), (0, 0): ("oust", "oust")})
        self.assertEqual([edge for edge in edges_of(house) if edge[0][0] == "anew"], [
            (("anew", 1), ("anew", 1), "elder"), (("anew", 1), ("stand", 0), "elder"), (("anew", 1), ("stand", 0), "younger"),
        ])

    def test_left_out(self):
        words = {(p, q): ("yield", "yield") for p in (0, 1) for q in (0, 1)}
        house = house_of([False, True], [0, 1], words)
        moves, fixed, stands = ("anew", 0), ("anew", 1), [("stand", 0), ("stand", 1)]
        self.assertEqual(left_out(house), sorted(
            [(moves, other, "younger") for other in [fixed, *stands]] + [(fixed, moves, "elder")]
        ))
        for edge in left_out(house):
            self.assertNotIn(edge, edges_of(house))
            self.assertTrue(places_of_edge(house, *edge))
        for edge in ((moves, moves, "younger"), (moves, moves, "elder"), (moves, fixed, "elder"), (fixed, moves, "younger")):
            self.assertIn(edge, edges_of(house))
        self.assertEqual(left_out(with_keeps(house, 0, True)), [])

    def test_left_out_where_a_holder_is_ousted(self):
        words = {(0, 1): ("oust", "oust"), (1, 0): ("oust", "oust")}
        house = house_of([False, True], [0, 1], words)
        moves, fixed = ("anew", 0), ("anew", 1)
        self.assertEqual(left_out(house), [(moves, fixed, "younger"), (fixed, moves, "elder")])
        self.assertEqual(
            [edge for edge in edges_of(house) if edge[0][0] == "anew"],
            [(moves, fixed, "elder"), (fixed, moves, "younger")],
        )

    def test_drawn_houses(self):
        for house in HOUSES:
            edges = model_edges(house)
            self.assertEqual(edges_of(house), sorted(edge for edge in edges if not model_is_left_out(house, edge)))
            self.assertEqual(left_out(house), sorted(edge for edge in edges if model_is_left_out(house, edge)))
            edges_of(house).append(None)
            left_out(house).clear()
            self.assertEqual(sorted(edges_of(house) + left_out(house)), sorted(edges))

    def test_places_of_edge(self):
        for house in HOUSES:
            edges = model_edges(house)
            for edge in itertools.product(all_nodes(house), all_nodes(house), AGES):
                self.assertEqual(places_of_edge(house, *edge), edges.get(edge, []))

    def test_next_nodes_and_nodes_ahead(self):
        seen = set()
        for house in HOUSES:
            edges = model_kept_edges(house)
            reach = model_reach(edges, all_nodes(house))
            for node in all_nodes(house):
                self.assertEqual(next_nodes(house, node), sorted({edge[1] for edge in edges if edge[0] == node}))
                self.assertEqual(nodes_ahead(house, node), [other for other in all_nodes(house) if (node, other) in reach])
                seen.add((node in nodes_ahead(house, node), len(nodes_ahead(house, node)) > 0))
        self.assertEqual(seen, {(True, True), (False, True), (False, False)})

    def test_a_rise_takes_edges_away(self):
        house = house_of([True, True], [0, 1], {(0, 1): ("yield", "wait"), (1, 0): ("wait", "oust")})
        self.assertEqual(next_nodes(house, ("anew", 0)), [("anew", 1), ("stand", 1)])
        self.assertEqual(next_nodes(with_rise(house, 0, 1), ("anew", 1)), [])
        self.assertEqual(nodes_ahead(with_rise(house, 0, 1), ("stand", 0)), [("stand", 0), ("stand", 1)])


class TestKnots(unittest.TestCase):
    def test_drawn_houses(self):
        for house in HOUSES:
            knots = model_knots(house, all_nodes(house))
            self.assertEqual(knots_of(house), knots)
            for knot in knots:
                edges = [edge for edge in model_kept_edges(house) if edge[0] in knot and edge[1] in knot]
                self.assertEqual(knot_edges(house, knot), edges)
                self.assertEqual(words_in(house, knot), tuple(sorted({edge[2] for edge in edges})))
                self.assertIs(is_bad(house, knot), model_is_bad(house, knot))
                self.assertIs(is_young(house, knot), any(edge[2] == "younger" for edge in edges))
                self.assertIs(is_knot(house, knot), True)
            for node in all_nodes(house):
                self.assertEqual(knot_of(house, node), next((knot for knot in knots if node in knot), None))
            knots_of(house).clear()
            self.assertEqual(knots_of(house), knots)

    def test_by_all_sets_of_nodes(self):
        for house in SMALL:
            nodes, edges = all_nodes(house), model_kept_edges(house)

            def leads_each_to_each(some):
                inner = [edge for edge in edges if edge[0] in some and edge[1] in some]
                reach = model_reach(inner, some)
                return bool(inner) and all(one == other or (one, other) in reach for one in some for other in some)

            lots = [some for many in range(1, len(nodes) + 1) for some in itertools.combinations(nodes, many)]
            tied = [some for some in lots if leads_each_to_each(some)]
            whole = [some for some in tied if not any(set(some) < set(other) for other in tied)]
            self.assertEqual(knots_of(house), sorted(whole))
            for some in lots:
                self.assertIs(is_knot(house, some), some in whole)

    def test_one_node(self):
        house = house_of([True], [0], {(0, 0): ("oust", "oust")})
        self.assertEqual(knots_of(house), [(("anew", 0),)])
        self.assertIsNone(knot_of(house, ("stand", 0)))
        self.assertIs(is_knot(house, (("stand", 0),)), False)
        self.assertIs(is_bad(house, (("anew", 0),)), True)
        for words, bad, young in ((("oust", "wait"), False, False), (("wait", "oust"), False, True)):
            house = house_of([True], [0], {(0, 0): words})
            self.assertEqual(is_bad(house, (("anew", 0),)), bad)
            self.assertEqual(is_young(house, (("anew", 0),)), young)

    def test_bad_by_a_moving_node_and_younger(self):
        for keeps, words, bad in (
            (False, ("wait", "oust"), True), (False, ("oust", "wait"), False), (True, ("wait", "oust"), False),
            (False, ("yield", "wait"), True), (False, ("wait", "yield"), False), (True, ("oust", "oust"), True),
        ):
            house = house_of([keeps], [0], {(0, 0): words})
            self.assertIs(is_bad(house, (("anew", 0),)), bad)

    def test_moving_and_fixed_ones_in_a_knot(self):
        words = {(0, 1): ("wait", "yield"), (1, 0): ("yield", "wait"), (0, 0): ("wait", "wait"), (1, 1): ("wait", "wait")}
        house = house_of([False, True], [0, 1], words)
        knot = (("anew", 0), ("anew", 1))
        self.assertEqual(knot_of(house, ("anew", 0)), knot)
        self.assertEqual((words_in(house, knot), is_bad(house, knot)), (AGES, True))

    def test_is_knot_of_any_value(self):
        for house in HOUSES[:100]:
            knots = knots_of(house)
            for thing in junk() + [Hall(house), nested_list(20), ((),), (("stand", 0), [])]:
                self.assertIs(is_knot(house, thing), False)
            for knot in knots:
                for other in knots:
                    if other != knot:
                        self.assertIs(is_knot(house, tuple(sorted(knot + other))), False)
                self.assertIs(is_knot(house, list(knot)), False)
                self.assertIs(is_knot(house, knot + knot[-1:]), False)
                self.assertIs(is_knot(house, knot[:1] + knot), False)
                for order in itertools.islice(itertools.permutations(knot), 20):
                    self.assertIs(is_knot(house, order), order == knot)
                for at in range(len(knot)):
                    self.assertIs(is_knot(house, knot[:at] + knot[at + 1:]), False)
                for thing in changed_leaves(knot, spoilt_leaf):
                    self.assertIs(is_knot(house, thing), False)
                for thing in changed_tuples(knot, lambda part: [list(part), part + (0,), (), None, (part,)]):
                    self.assertIs(is_knot(house, thing), False)
                for node in all_nodes(house):
                    if node not in knot:
                        self.assertIs(is_knot(house, tuple(sorted(knot + (node,)))), False)


class TestWalks(unittest.TestCase):
    def walks(self, seed, many):
        """Couples of a house and a walk of it of two edges at least."""
        draw = random.Random(seed)
        found = []
        while len(found) < many:
            house = draw.choice(HOUSES)
            edges, walk = edges_of(house), ()
            for _ in range(draw.randint(2, 12)):
                able = [edge for edge in edges if not walk or edge[0] == walk[-1][1]]
                walk += (draw.choice(able),) if able else ()
            if len(walk) > 1:
                found.append((house, walk))
        return found

    def test_is_walk(self):
        for house, walk in self.walks(47, 200):
            self.assertIs(is_walk(house, walk), True)
            self.assertIs(is_walk(house, ()), True)
            self.assertIs(is_walk(house, walk[:-1]), True)
            for at in range(1, len(walk) - 1):
                follows = walk[at - 1][1] == walk[at + 1][0]
                self.assertIs(is_walk(house, walk[:at] + walk[at + 1:]), follows)
            for edge in edges_of(house):
                self.assertIs(is_walk(house, walk + (edge,)), walk[-1][1] == edge[0])
                self.assertIs(is_walk(house, (edge,) + walk), walk[0][0] == edge[1])
            for edge in left_out(house):
                self.assertIs(is_walk(house, (edge,)), False)
                self.assertIs(is_walk(house, walk + (edge,)), False)

    def test_is_walk_of_any_value(self):
        for house, walk in self.walks(48, 25):
            for thing in junk() + [Hall(house), walk[0], list(walk), [walk], (walk,)]:
                self.assertIs(is_walk(house, thing), thing == () and isinstance(thing, tuple), thing)
            for thing in changed_leaves(walk[:3], spoilt_leaf):
                self.assertIs(is_walk(house, thing), False)
            for thing in changed_tuples(walk[:3], lambda part: [list(part), part + (0,), part + ((),), None, "a", (part, [])]):
                self.assertIs(is_walk(house, thing), False)
            every = list(itertools.product(all_nodes(house), all_nodes(house), AGES))
            for edge in every:
                self.assertIs(is_walk(house, (edge,)), edge in model_kept_edges(house))

    def test_way_to(self):
        draw = random.Random(49)
        seen = set()
        for house in SMALL:
            nodes = all_nodes(house)
            for node in nodes:
                some = tuple(sorted(draw.sample(nodes, draw.randint(0, len(nodes)))))
                way = way_to(house, node, some)
                ends = [walk for walk in walks_from(house, node, 3) if (walk[-1][1] if walk else node) in some]
                if not ends:
                    self.assertIsNone(way)
                    seen.add(None)
                    continue
                self.assertEqual(len(way), len(ends[0]))
                self.assertIs(is_walk(house, way), True)
                self.assertIn(way, ends)
                seen.add(len(way))
        self.assertTrue({None, 0, 1} <= seen, seen)

    def test_way_to_in_greater_houses(self):
        draw = random.Random(50)
        for house in HOUSES:
            nodes, edges = all_nodes(house), model_kept_edges(house)
            node = draw.choice(nodes)
            some = tuple(sorted(draw.sample(nodes, draw.randint(1, 2))))
            layer, wanted = {node}, None
            for many in range(len(nodes) + 1):
                if layer & set(some):
                    wanted = many
                    break
                layer = {edge[1] for edge in edges if edge[0] in layer}
            way = way_to(house, node, some)
            self.assertEqual(None if way is None else len(way), wanted)
            if way:
                self.assertIs(is_walk(house, way), True)
                self.assertEqual(way[0][0], node)
                self.assertIn(way[-1][1], some)
            self.assertEqual(way_to(house, node, (node,)), ())
            self.assertIsNone(way_to(house, node, ()))
            self.assertEqual(way_to(house, node, some), way)

    def test_bad_way(self):
        seen = set()
        for house in HOUSES:
            bad = [node for knot in model_knots(house, all_nodes(house)) if model_is_bad(house, knot) for node in knot]
            for node in all_nodes(house):
                way = bad_way(house, node)
                self.assertEqual(way, way_to(house, node, tuple(sorted(bad))))
                if node in bad:
                    self.assertEqual(way, ())
                seen.add(way if way is None else min(len(way), 2))
        self.assertTrue({None, 0, 1} <= seen, seen)

    def test_end_of(self):
        for house, walk in self.walks(51, 20):
            self.assertEqual(end_of(walk[0][0], walk), walk[-1][1])
            self.assertEqual(end_of(("stand", 0), ()), ("stand", 0))

    def closed(self, walk):
        return len(walk) > 0 and walk[-1][1] == walk[0][0]

    def test_is_turning(self):
        seen = set()
        for house in SMALL:
            for node in all_nodes(house):
                for walk in itertools.islice(walks_from(house, node, 4), 200):
                    if self.closed(walk):
                        self.assertIs(is_turning(house, walk), turns_by_rule(house, walk))
                        seen.add(is_turning(house, walk))
        self.assertEqual(seen, {True, False})

    def test_turning_walk_by_all_walks(self):
        found = set()
        for house in SMALL:
            for node in all_nodes(house):
                walk = turning_walk(house, node)
                most = 3 if walk is None else min(len(walk), 5)
                turning = [
                    one for one in itertools.islice(walks_from(house, node, most), 40000)
                    if self.closed(one) and turns_by_rule(house, one)
                ]
                if walk is None:
                    self.assertEqual(turning, [])
                else:
                    self.assertEqual(len(walk), len(turning[0]))
                    self.assertIn(walk, turning)
                found.add(None if walk is None else len(walk))
        self.assertTrue({None, 1, 2, 3} <= found, found)

    def test_turning_walk_by_lengths(self):
        for house in HOUSES:
            edges = model_kept_edges(house)
            bad = [node for knot in model_knots(house, all_nodes(house)) if model_is_bad(house, knot) for node in knot]
            for node in all_nodes(house):
                walk = turning_walk(house, node)
                self.assertEqual(walk is None, node not in bad)
                if walk is None:
                    continue
                self.assertIs(is_walk(house, walk), True)
                self.assertTrue(self.closed(walk) and walk[0][0] == node)
                self.assertIs(is_turning(house, walk), True)
                self.assertEqual(turning_walk(house, node), walk)
                layer = {(node, frozenset(), model_moves(house, node))}
                for many in range(1, len(walk) + 1):
                    layer = {
                        (edge[1], words | {edge[2]}, moving or model_moves(house, edge[1]))
                        for here, words, moving in layer for edge in edges if edge[0] == here
                    }
                    turned = [
                        one for one in layer
                        if one[0] == node and (len(one[1]) == 2 or one[2] and "younger" in one[1])
                    ]
                    self.assertEqual(bool(turned), many == len(walk))


if __name__ == "__main__":
    unittest.main()
