"""[31] and [37]: papers that show that kinds cannot stand, and that they come through."""

import random
import unittest

from comesthrough.hall import Hall
from comesthrough.held import held_kinds, held_nodes
from comesthrough.houses import raised_kinds
from comesthrough.rankings import is_ranking, ranking_of, shown_through
from comesthrough.standpapers import calm_of, is_calm, shown_calm
from comesthrough.standing import can_stand
from tests.model import model_held_nodes, model_kept_edges, model_leading, model_moves, model_nodes, model_nodes_ever
from tests.samples import drawn_houses, junk

HOUSES = (
    drawn_houses(310, 80) + drawn_houses(311, 60, words=("wait", "yield")) + drawn_houses(312, 40, words=("wait", "oust"))
    + drawn_houses(313, 60, kinds=4, sorts=1, words=("wait", "yield", "yield", "yield"), rising=False)
    + drawn_houses(314, 30, kinds=1) + drawn_houses(315, 30, kinds=5, sorts=1, words=("yield", "yield", "oust", "wait"))
    + drawn_houses(316, 20, kinds=2, sorts=1, renewing=False)
    + drawn_houses(309, 100, kinds=3, sorts=1, words=("wait", "oust", "yield", "yield"))
)
KEPT = ((("a", True, 0),), ("s",), (((("wait", "yield"),),),))
BOTH = ((("a", True, 0),), ("s",), (((("wait", "wait"),),),))


def ruled(first, second):
    """A house of two kinds, elder first in the first one, younger first in the second one, or the like."""
    kinds = (("a", True, 0), ("b", True, 1))
    return (kinds, ("s",), (((first, first), (("yield", "yield"), second)),))


def stand_edges(house):
    return [(edge[0][1], edge[1][1], edge[2]) for edge in model_kept_edges(house) if edge[0][0] == "stand"]


def calm_kinds(house):
    """The kinds from which no way leads to a closed walk of nodes with "stand" that has both words."""
    edges = stand_edges(house)
    kinds = range(len(house[0]))
    states = {(kind, kind, False, False) for kind in kinds}
    while True:
        more = {
            (start, other, elder or word == "elder", younger or word == "younger")
            for start, here, elder, younger in states for one, other, word in edges if one == here
        }
        if more <= states:
            break
        states |= more
    bad = [("stand", kind) for kind in kinds if (kind, kind, True, True) in states]
    return [kind for kind in kinds if ("stand", kind) not in model_leading(house, bad)]


def is_calm_by_rule(house, paper):
    for kind, other, word in stand_edges(house):
        if kind in paper:
            if other not in paper or paper[other][0] > paper[kind][0]:
                return False
            if paper[other][0] == paper[kind][0] and not word == paper[kind][1] == paper[other][1]:
                return False
    return True


def is_ranking_by_rule(house, paper):
    words = {}
    for node, other, word in model_kept_edges(house):
        if node in paper:
            if other not in paper or paper[other] > paper[node]:
                return False
            if paper[other] == paper[node]:
                words.setdefault(paper[node], set()).add(word)
                if word == "younger" and (model_moves(house, node) or model_moves(house, other)):
                    return False
    return all(len(told) == 1 for told in words.values())


def with_other_key(paper, key, other):
    """A paper with another key in the place of one."""
    return {other if one == key else one: paper[one] for one in paper}


def never_papers(paper):
    """What is no paper of any kind, made of one with at least a key."""
    key = next(iter(paper))
    yield from [list(paper), tuple(paper.items()), list(paper.items()), [paper], (paper,), None, True, Hall(KEPT)]
    others = [None, True, -1, 5, 10 ** 39, "a", (), (key,), ("stand",), ("stand", True), ("stand", 5), ("anew", -1), ("", 0)]
    for other in [one for one in others if one not in paper]:
        yield with_other_key(paper, key, other)
        yield {**paper, other: paper[key]}
    for other in [True, ("stand", True), ("anew", True), ("stand", False), ("anew", False)]:
        yield from [with_other_key(paper, one, other) for one in paper if one == other]


class TestCalms(unittest.TestCase):
    def test_calm_of(self):
        seen = set()
        for house in HOUSES:
            calm = calm_of(house)
            self.assertEqual(list(calm), calm_kinds(house))
            self.assertIs(is_calm(house, calm), True)
            self.assertTrue(is_calm_by_rule(house, calm))
            for rank in calm.values():
                self.assertEqual((rank.__class__, len(rank), rank[0].__class__), (tuple, 2, int))
                self.assertIn(rank[1], ("elder", "younger"))
            seen.add((len(calm) == 0, len(calm) == len(house[0])))
            calm.clear()
            self.assertEqual(list(calm_of(house)), calm_kinds(house))
        self.assertEqual(seen, {(True, False), (False, True), (False, False)})

    def test_is_calm(self):
        draw = random.Random(317)
        seen = {True: 0, False: 0}
        for house in HOUSES:
            for _ in range(12):
                kinds = [kind for kind in range(len(house[0])) if draw.random() < 0.8]
                most = draw.choice([0, 1, 3])
                paper = {kind: (draw.randint(-most, most), draw.choice(["elder", "younger"])) for kind in kinds}
                self.assertIs(is_calm(house, paper), is_calm_by_rule(house, paper), (house, paper))
                seen[is_calm(house, paper)] += 1
        self.assertGreater(min(seen.values()), 300)

    def test_a_calm_otherwise(self):
        seen = {True: 0, False: 0}
        for house in HOUSES:
            calm = calm_of(house)
            turned = {kind: calm[kind] for kind in reversed(list(calm))}
            greater = {kind: (rank * 10 ** 38 - 10 ** 39, word) for kind, (rank, word) in calm.items()}
            for paper in (turned, greater):
                self.assertIs(is_calm(house, paper), True)
            others = [{one: calm[one] for one in calm if one != kind} for kind in calm]
            for kind, (rank, word) in calm.items():
                others += [{**calm, kind: (number, word)} for number in (rank - 1, rank + 1, -rank, 99)]
                others.append({**calm, kind: (rank, "younger" if word == "elder" else "elder")})
            others += [{**calm, kind: (0, "elder")} for kind in range(len(house[0])) if kind not in calm]
            for paper in others:
                self.assertIs(is_calm(house, paper), is_calm_by_rule(house, paper))
                seen[is_calm(house, paper)] += 1
        self.assertGreater(min(seen.values()), 100)

    def test_any_value(self):
        for house in HOUSES[:60] + [KEPT]:
            self.assertIs(is_calm(house, {}), True)
            for thing in [one for one in junk() if one != {}]:
                self.assertIs(is_calm(house, thing), False)
            calm = calm_of(house)
            if not calm:
                continue
            for thing in never_papers(calm):
                self.assertIs(is_calm(house, thing), False, thing)
            self.assertIs(is_calm(house, {**calm, len(house[0]): (0, "elder")}), False)
            for kind, (rank, word) in calm.items():
                for other in (
                    rank, [rank, word], (rank,), (rank, word, word), (word, rank), (bool(rank), word), (str(rank), word),
                    (None, word), (rank, "Elder"), (rank, "elder "), (rank, None), (rank, [word]), (rank, (word,)), (), None,
                ):
                    self.assertIs(is_calm(house, {**calm, kind: other}), False)

    def test_words_of_one_integer(self):
        elder = ruled(("wait", "yield"), ("yield", "yield"))
        self.assertIs(is_calm(elder, {0: (0, "younger"), 1: (0, "younger")}), True)
        self.assertIs(is_calm(elder, {0: (0, "elder"), 1: (0, "elder")}), False)
        self.assertIs(is_calm(elder, {0: (1, "younger"), 1: (0, "elder")}), True)
        self.assertIs(is_calm(elder, {0: (0, "younger"), 1: (1, "younger")}), False)
        self.assertIs(is_calm(elder, {0: (0, "younger"), 1: (0, "elder")}), False)
        self.assertIs(is_calm(elder, {0: (0, "younger")}), False)

    def test_shown_calm(self):
        draw = random.Random(318)
        fewer = 0
        for house in HOUSES:
            kinds = range(len(house[0]))
            self.assertEqual(shown_calm(house, calm_of(house)), [kind for kind in kinds if not can_stand(house, kind)])
            calm = {kind: calm_of(house)[kind] for kind in calm_of(house) if draw.random() < 0.7}
            wanted = [kind for kind in kinds if all(raised in calm for raised in raised_kinds(house, kind))]
            self.assertEqual(shown_calm(house, calm), wanted)
            fewer += len(wanted) < len(calm)
        self.assertGreater(fewer, 5)


class TestRankings(unittest.TestCase):
    def test_ranking_of(self):
        seen = set()
        for house in HOUSES:
            ranking = ranking_of(house)
            held = model_held_nodes(house)
            self.assertEqual(held_nodes(house), held)
            self.assertEqual(list(ranking), [node for node in model_nodes(house) if node not in held])
            self.assertEqual({rank.__class__ for rank in ranking.values()} - {int}, set())
            self.assertIs(is_ranking(house, ranking), True)
            self.assertTrue(is_ranking_by_rule(house, ranking))
            seen.add((len(ranking) == 0, len(held) == 0))
            ranking.clear()
            self.assertEqual(len(ranking_of(house)) + len(held), len(model_nodes(house)))
        self.assertEqual(seen, {(True, False), (False, True), (False, False)})

    def test_is_ranking(self):
        draw = random.Random(319)
        seen = {True: 0, False: 0}
        for house in HOUSES:
            ranking = ranking_of(house)
            for _ in range(10):
                most = draw.choice([0, 1, 3])
                nodes = [node for node in model_nodes(house) if draw.random() < 0.8]
                drawn = {node: draw.randint(-most, most) for node in nodes}
                nearly = {node: rank + draw.choice([0, 0, 0, 1, -1]) for node, rank in ranking.items()}
                for paper in (drawn, nearly):
                    self.assertIs(is_ranking(house, paper), is_ranking_by_rule(house, paper), (house, paper))
                    seen[is_ranking(house, paper)] += 1
        self.assertGreater(min(seen.values()), 500)

    def test_a_ranking_otherwise(self):
        seen = {True: 0, False: 0}
        for house in HOUSES:
            ranking = ranking_of(house)
            self.assertIs(is_ranking(house, {node: ranking[node] for node in reversed(list(ranking))}), True)
            self.assertIs(is_ranking(house, {node: rank * 10 ** 38 - 5 for node, rank in ranking.items()}), True)
            others = [{one: ranking[one] for one in ranking if one != node} for node in ranking]
            for node in ranking:
                others += [{**ranking, node: rank} for rank in set(ranking.values()) | {-1, 99}]
            others += [{**ranking, node: 99} for node in model_held_nodes(house)]
            for paper in others:
                self.assertIs(is_ranking(house, paper), is_ranking_by_rule(house, paper))
                seen[is_ranking(house, paper)] += 1
        self.assertGreater(min(seen.values()), 100)

    def test_any_value(self):
        for house in HOUSES[:60] + [KEPT]:
            self.assertIs(is_ranking(house, {}), True)
            for thing in [one for one in junk() if one != {}]:
                self.assertIs(is_ranking(house, thing), False)
            ranking = ranking_of(house)
            if not ranking:
                continue
            for thing in never_papers(ranking):
                self.assertIs(is_ranking(house, thing), False, thing)
            for node, rank in ranking.items():
                for other in (bool(rank), None, str(rank), [rank], (rank,), {}, (rank, "elder")):
                    self.assertIs(is_ranking(house, {**ranking, node: other}), False)

    def test_no_node_of_a_kind_that_rises(self):
        house = ((("a", True, 1), ("b", True, 1)), ("s",), ((((("oust",) * 2),) * 2,) * 2))
        self.assertIs(is_ranking(house, {("stand", 0): 0, ("stand", 1): 0}), True)
        self.assertIs(is_ranking(house, {("stand", 0): 0, ("anew", 0): 0}), False)

    def test_younger_between_fixed_nodes_alone(self):
        for keeps in (True, False):
            house = ((("a", keeps, 0),), ("s",), (((("yield", "wait"),),),))
            self.assertIs(is_ranking(house, {("stand", 0): 0}), True)
            self.assertIs(is_ranking(house, {("stand", 0): 0, ("anew", 0): 1}), keeps)

    def test_younger_from_a_fixed_node_to_a_moving_one(self):
        # A younger b ousts a; else all wait.
        both = ("wait", "wait")
        for keeps in (True, False):
            house = ((("a", True, 0), ("b", keeps, 1)), ("s",), (((both, both), (("wait", "oust"), both)),))
            anew = [edge for edge in model_kept_edges(house) if edge[0][0] == "anew"]
            self.assertEqual(anew, [(("anew", 0), ("anew", 1), "younger")])
            self.assertIs(is_ranking(house, {("anew", 0): 0, ("anew", 1): 0}), keeps)
            self.assertIs(is_ranking(house, {("anew", 0): 1, ("anew", 1): 0}), True)

    def test_one_integer_has_one_word_also_where_no_edge_joins_them(self):
        house = ruled(("wait", "yield"), ("yield", "wait"))
        # Kind 0 waits for younger ones, of both kinds, kind 1 waits for elder ones of its own kind.
        self.assertIs(is_ranking(house, {("stand", 0): 1, ("stand", 1): 0}), True)
        self.assertIs(is_ranking(house, {("stand", 0): 0, ("stand", 1): 0}), False)
        apart = ((("a", True, 0), ("b", True, 1)), ("s",), (
            ((("wait", "oust"), ("oust", "oust")), (("oust", "oust"), ("oust", "wait"))),))
        self.assertIs(is_ranking(apart, {("stand", 0): 1, ("stand", 1): 0}), True)
        self.assertIs(is_ranking(apart, {("stand", 0): 3, ("stand", 1): 3}), False)

    def test_shown_through(self):
        draw = random.Random(320)
        fewer = 0
        for house in HOUSES:
            kinds = range(len(house[0]))
            ranking = ranking_of(house)
            held = held_kinds(house)
            self.assertEqual(shown_through(house, ranking), [kind for kind in kinds if kind not in held])
            ranking = {node: rank for node, rank in ranking.items() if draw.random() < 0.8}
            wanted = [kind for kind in kinds if all(node in ranking for node in model_nodes_ever(house, kind))]
            self.assertEqual(shown_through(house, ranking), wanted)
            fewer += len(wanted) < len(shown_through(house, ranking_of(house)))
        self.assertGreater(fewer, 5)
        self.assertEqual(shown_through(KEPT, {("anew", 0): 0}), [])
        self.assertEqual(shown_through(KEPT, {("anew", 0): 0, ("stand", 0): 0}), [0])


if __name__ == "__main__":
    unittest.main()
