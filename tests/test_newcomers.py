"""[45]: open houses: who comes through, and reasons for who does not."""

import random
import unittest

from comesthrough.hall import Hall
from comesthrough.held import can_be_held
from comesthrough.newcomers import comes_through_open, is_open_reason, open_kinds, open_reason, outs_of
from tests.model import (
    model_is_held, model_kept_edges, model_leads, model_moves, model_nodes, model_nodes_of, model_outs, model_raised,
)
from tests.openmodel import model_comes_through_open, model_fitting_outs
from tests.samples import aged_houses, changed_leaves, changed_tuples, drawn_houses, junk

HOUSES = (
    aged_houses(450, 200) + aged_houses(451, 60, kinds=1) + drawn_houses(452, 60) + drawn_houses(453, 30, words=("wait", "yield"))
    + aged_houses(454, 80, kinds=5, couples=(("oust", "wait"),) * 9 + (("wait", "yield"), ("oust", "yield")))
    + aged_houses(455, 80, kinds=4, couples=(("yield", "wait"),) * 3 + (("wait", "oust"), ("oust", "wait")) + (("wait", "yield"),) * 9)
    + drawn_houses(456, 40, kinds=3, sorts=1, renewing=False, words=("oust", "wait"))
    + aged_houses(457, 80, kinds=4, couples=(("oust", "wait"),))
    + aged_houses(449, 60, kinds=4, couples=(("oust", "yield"),) * 6 + (("wait", "yield"),))
)
WAITS = ((("a", True, 0),), ("s",), (((("wait", "yield"),),),))
OUSTS = ((("a", True, 0),), ("s",), (((("oust", "wait"),),),))


def one_kind(keeps, elder, younger):
    return ((("a", keeps, 0),), ("s",), ((((elder, younger),),),))


def is_reason_by_rule(house, kind, reason):
    """Whether a tuple (a tuple of kinds, a tuple of edges, a tuple of edges or an out of any kind) is a reason."""
    raises, way, what = reason
    if not raises or raises != model_raised(house, kind)[:len(raises)]:
        return False
    edges = model_kept_edges(house)
    if not all(edge in edges for edge in way) or not all(one[1] == other[0] for one, other in zip(way, way[1:])):
        return False
    starts = [way[0][0]] if way else model_nodes_of(house, raises[-1])
    if not set(starts) <= set(model_nodes_of(house, raises[-1])):
        return False
    ends = [way[-1][1]] if way else starts
    if what and isinstance(what[-1], str):
        return any(what in model_fitting_outs(house, node) for node in ends)
    if not what or not all(edge in edges for edge in what):
        return False
    chained = all(one[1] == other[0] for one, other in zip(what, what[1:] + what[:1]))
    return chained and what[0][0] in ends and "younger" in [edge[2] for edge in what]


def drawn_way(draw, house, node, most):
    """Edges one behind the other from a node, at most so many."""
    way = []
    for _ in range(draw.randint(0, most)):
        edges = model_leads(house).get(way[-1][1] if way else node, [])
        if not edges:
            break
        way.append(draw.choice(edges))
    return tuple(way)


class TestOpenKinds(unittest.TestCase):
    def test_outs_of(self):
        rising, words = 0, set()
        for house in HOUSES:
            for kind in range(len(house[0])):
                outs = outs_of(house, kind)
                self.assertEqual(outs, model_outs(house, kind))
                rising += len(outs) > 0 and house[0][kind][2] != kind
                words |= {(house[2][place[0]][place[1]][place[2]][place[3]], place[3], word) for place, word in outs}
                outs.append(None)
                self.assertEqual(outs_of(house, kind), model_outs(house, kind))
        self.assertGreater(rising, 50)
        self.assertEqual(words, {
            ("yield", 0, "younger"), ("yield", 1, "elder"), ("oust", 0, "elder"), ("oust", 1, "younger"),
        })

    def test_against_the_graph(self):
        seen, raised_only, open_only = set(), 0, 0
        for house in HOUSES:
            kinds = range(len(house[0]))
            through = [kind for kind in kinds if model_comes_through_open(house, kind)]
            for kind in kinds:
                self.assertIs(comes_through_open(house, kind), kind in through)
                # Who is held off in a closed house is so in an open one.
                self.assertFalse(kind in through and can_be_held(house, kind))
                open_only += kind not in through and not model_is_held(house, kind)
                raised_only += kind not in through and len(open_reason(house, kind)[0]) > 1
            self.assertEqual(open_kinds(house), through)
            seen.add((through == [], len(through) == len(kinds)))
            open_kinds(house).append(0)
            self.assertEqual(open_kinds(house), through)
        self.assertEqual(seen, {(True, False), (False, True), (False, False)})
        self.assertGreater(open_only, 50)
        self.assertGreater(raised_only, 10)

    def test_one_kind(self):
        through = [
            (keeps, elder, younger)
            for keeps in (True, False) for elder in ("oust", "wait", "yield") for younger in ("oust", "wait", "yield")
            if comes_through_open(one_kind(keeps, elder, younger), 0)
        ]
        # Elder ones come to an end where they oust or are never asked, and keep their ages where they are put out.
        self.assertEqual(through, [(True, "oust", "wait"), (True, "oust", "yield")])

    def test_outs_by_kinds_that_are_not_last(self):
        # c, which rises, ousts an elder a: only this lets a be put out, and no edge tells of it.
        for side, through in ((0, [0]), (1, [])):
            couple = ("oust", "wait") if side == 0 else ("wait", "oust")
            rows = [[("oust", "wait")] * 3 for _ in range(3)]
            rows[1] = [couple, ("oust", "wait"), ("oust", "wait")]
            rows[0] = [("oust", "yield")] * 3
            house = ((("a", True, 0), ("c", True, 2), ("b", True, 2)), ("s",), (tuple(tuple(row) for row in rows),))
            self.assertEqual(comes_through_open(house, 0), model_comes_through_open(house, 0))
            self.assertEqual([kind for kind in open_kinds(house) if kind == 0], through)


class TestReasons(unittest.TestCase):
    def test_open_reason(self):
        seen = set()
        for house in HOUSES:
            for kind in range(len(house[0])):
                reason = open_reason(house, kind)
                self.assertEqual(reason, open_reason(house, kind))
                if model_comes_through_open(house, kind):
                    self.assertIsNone(reason)
                    continue
                self.assertTrue(is_reason_by_rule(house, kind, reason))
                self.assertIs(is_open_reason(house, kind, reason), True)
                seen.add((min(len(reason[0]), 2), min(len(reason[1]), 2), isinstance(reason[2][-1], str)))
                seen.add(len(reason[2]) if isinstance(reason[2][-1], tuple) else reason[2][1])
        self.assertTrue({
            (1, 0, True), (1, 0, False), (1, 1, True), (1, 1, False), (1, 2, False), (2, 0, True), (2, 1, False),
            1, 2, 3, "elder", "younger",
        } <= seen, seen)

    def check(self, house, kind, reason):
        wanted = is_reason_by_rule(house, kind, reason)
        self.assertIs(is_open_reason(house, kind, reason), wanted, (house, kind, reason))
        return wanted

    def test_drawn_reasons(self):
        draw = random.Random(458)
        seen = {}
        for house in HOUSES[::3]:
            for kind in range(len(house[0])):
                raised = model_raised(house, kind)
                for _ in range(3):
                    raises = raised[:draw.randint(1, len(raised))]
                    way = drawn_way(draw, house, draw.choice(model_nodes_of(house, raises[-1])), 3)
                    end = way[-1][1] if way else draw.choice(model_nodes_of(house, raises[-1]))
                    closed = self.drawn_ring(draw, house, end)
                    outs = model_outs(house, end[1]) + model_outs(house, draw.randrange(len(house[0])))
                    for what in [closed] + outs:
                        told = (isinstance(what[-1], str) if what else None, self.check(house, kind, (raises, way, what)))
                        seen[told] = seen.get(told, 0) + 1
        self.assertGreater(min(seen.values()), 50)
        self.assertTrue({(True, True), (True, False), (False, True), (False, False)} <= set(seen))

    def drawn_ring(self, draw, house, node):
        """A walk from a node, if it can be one that leads back there."""
        way = ()
        for _ in range(6):
            way = drawn_way(draw, house, node, 5)
            if way and way[-1][1] == node:
                break
        return way

    def test_a_part_otherwise(self):
        draw = random.Random(459)
        seen = {True: 0, False: 0}
        for house in HOUSES[1::3]:
            kinds, edges = range(len(house[0])), model_kept_edges(house)
            for kind in kinds:
                reason = open_reason(house, kind)
                if reason is None:
                    continue
                raises, way, what = reason
                others = [(other, way, what) for other in ((), raises + (kind,), raises[1:], raises[:-1], raises[::-1])]
                others += [(model_raised(house, kind), way, what), (model_raised(house, kind)[:1], way, what)]
                others += [(raises, other, what) for other in (way[1:], way[:-1], way[::-1], (), way + way)]
                others += [(raises, (edge,) + way, what) for edge in edges[:6]]
                others += [(raises, way + (edge,), what) for edge in edges[-6:]]
                for other in kinds:
                    self.check(house, other, reason)
                    others += [((other,), way, what), (raises + (other,), way, what)]
                    others += [(raises, way, out) for out in model_outs(house, other)]
                if isinstance(what[-1], str):
                    place, word = what
                    others += [(raises, way, (place, "younger" if word == "elder" else "elder"))]
                    others += [(raises, way, (place[:at] + (part,) + place[at + 1:], word)) for at in range(4) for part in (0, 1)]
                else:
                    others += [(raises, way, other) for other in (what[1:], what[:-1], what[::-1], (), what + what)]
                    others += [(raises, way + what, what), (raises, way + what[:1], what[1:] + what[:1])]
                    others += [(raises, way, (draw.choice(edges),)), (raises, way, tuple(draw.choice(edges) for _ in what))]
                for other in others:
                    seen[self.check(house, kind, other)] += 1
        self.assertGreater(min(seen.values()), 500)

    def test_outs_of_a_fixed_node_by_elder_ones(self):
        for keeps in (True, False):
            house = one_kind(keeps, "wait", "yield")
            out = ((0, 0, 0, 1), "elder")
            self.assertEqual(outs_of(house, 0), [out])
            self.assertIs(is_open_reason(house, 0, ((0,), (), out)), not keeps)

    def test_a_ring_without_younger(self):
        house = one_kind(True, "oust", "wait")
        self.assertIs(is_open_reason(house, 0, ((0,), (), ((("stand", 0), ("stand", 0), "elder"),))), False)
        self.assertIs(is_open_reason(WAITS, 0, ((0,), (), ((("stand", 0), ("stand", 0), "younger"),))), True)

    def test_raises_that_nothing_lets(self):
        rows = ((("wait", "wait"), ("oust", "wait")), (("wait", "yield"), ("wait", "yield")))
        house = ((("a", True, 1), ("b", True, 1)), ("s",), (rows,))
        ring = ((("stand", 1), ("stand", 1), "younger"),)
        self.assertEqual(model_raised(house, 0), (0,))
        self.assertIs(is_open_reason(house, 0, ((0, 1), (), ring)), False)
        self.assertIs(is_open_reason(house, 1, ((1,), (), ring)), True)

    def test_truths_among_raises(self):
        house = ((("a", True, 1), ("b", True, 1)), ("s",), ((((("wait", "yield"),) * 2,) * 2),))
        ring = ((("stand", 1), ("stand", 1), "younger"),)
        for raises, wanted in (((0, 1), True), ((False, 1), False), ((0, True), False), ((False, True), False), ([0, 1], False)):
            self.assertIs(is_open_reason(house, 0, (raises, (), ring)), wanted)

    def test_any_value(self):
        for house in (WAITS, one_kind(False, "wait", "yield"), one_kind(True, "yield", "wait")):
            reason = open_reason(house, 0)
            self.assertIs(is_open_reason(house, 0, reason), True)
            for thing in junk() + [Hall(house), list(reason), [reason], reason[:2], reason + ((),), (reason,), reason[::-1]]:
                self.assertIs(is_open_reason(house, 0, thing), False)
            for thing in changed_leaves(reason[::2], lambda leaf: [None, [], {}, -1, "x", bool(leaf), 10 ** 39, Hall(house)]):
                self.assertIs(is_open_reason(house, 0, (thing[0], (), thing[1])), False)
            others = lambda part: [list(part), part + (None,), None, (part,), "", {}, part[:-1], ()]
            for thing in changed_tuples(reason[::2], others):
                if isinstance(thing, tuple) and len(thing) == 2:
                    self.assertIs(is_open_reason(house, 0, (thing[0], (), thing[1])), False)
            for way in ([], None, "", {}, ((),), (None,), 0, False, True, [reason[2]]):
                self.assertIs(is_open_reason(house, 0, (reason[0], way, reason[2])), False)

    def test_all_nodes_are_asked(self):
        for house in HOUSES[:100]:
            for kind in range(len(house[0])):
                for node in model_nodes(house):
                    for out in model_outs(house, node[1]):
                        way = [edge for edge in model_kept_edges(house) if edge[0][1] == kind and edge[1] == node][:1]
                        if way and out[1] == "elder":
                            wanted = node[0] == "anew" and model_moves(house, node)
                            self.assertIs(is_open_reason(house, kind, ((kind,), tuple(way), out)), wanted)


if __name__ == "__main__":
    unittest.main()
