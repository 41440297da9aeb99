"""[47]: open stories, and papers that show of kinds that they come through in open houses."""

import random
import unittest

from comesthrough.hall import Hall
from comesthrough.newcomers import open_kinds, open_reason
from comesthrough.openstories import is_open_ranking, is_open_story, open_ranking, open_story, shown_open
from comesthrough.rankings import is_ranking
from comesthrough.stories import held_story, is_story
from comesthrough.streams import goes_on, is_stream, led_stream, stream_holds
from tests.model import (
    Model, drawn_rounds, drawn_run, model_is_held, model_is_story, model_kept_edges, model_nodes, model_nodes_ever,
    model_words,
)
from tests.openmodel import model_broken, model_comes_through_open, model_fitting_outs, model_open_nodes
from tests.samples import aged_houses, changed_leaves, changed_tuples, drawn_house, drawn_houses, junk
from tests.test_papers import never_papers
from tests.test_streams import STREAM, changed

HOUSES = (
    aged_houses(470, 400) + aged_houses(471, 60, kinds=1) + drawn_houses(472, 40) + drawn_houses(473, 30, words=("wait", "yield"))
    + aged_houses(474, 80, kinds=5, couples=(("oust", "wait"),) * 9 + (("wait", "yield"), ("oust", "yield")))
    + aged_houses(475, 80, kinds=4, couples=(("yield", "wait"), ("wait", "oust"), ("oust", "wait")) + (("wait", "yield"),) * 9)
    + aged_houses(476, 100, kinds=3, couples=(("oust", "wait"),) * 4 + (("oust", "yield"),) * 4 + (("wait", "oust"),))
    + aged_houses(477, 60, kinds=4, couples=(("oust", "wait"),))
    + aged_houses(482, 80, kinds=4, couples=(("oust", "yield"),) * 6 + (("wait", "yield"),))
    + aged_houses(483, 100, kinds=5, couples=(("oust", "yield"),) * 6 + (("yield", "oust"),) + (("oust", "wait"),) * 3)
    + aged_houses(484, 100, kinds=4, couples=(("oust", "yield"),) * 6 + (("wait", "oust"), ("yield", "wait"), ("wait", "yield")))
)
WAITS = ((("a", True, 0),), ("s",), (((("wait", "yield"),),),))
OUSTS = ((("a", True, 0),), ("s",), (((("oust", "wait"),),),))


def one_kind(keeps, elder, younger):
    return ((("a", keeps, 0),), ("s",), ((((elder, younger),),),))


def is_open_ranking_by_rule(house, paper):
    for node, other, word in model_kept_edges(house):
        if node in paper:
            if other not in paper or paper[other] > paper[node]:
                return False
            if paper[other] == paper[node] and word == "younger":
                return False
    return not [node for node in paper if model_fitting_outs(house, node)]


class TestOpenStories(unittest.TestCase):
    def test_open_story(self):
        seen = {}
        for house in HOUSES:
            for kind in range(len(house[0])):
                story = open_story(house, kind)
                self.assertEqual(story, open_story(house, kind))
                if model_comes_through_open(house, kind):
                    self.assertIsNone(story)
                    seen["none"] = seen.get("none", 0) + 1
                    continue
                self.assertIs(is_open_story(house, kind, story), True)
                self.assertEqual(story[0][0][0], kind)
                if len(story) < 4:
                    self.assertTrue(model_is_story(house, kind, story))
                    self.assertIs(is_story(house, kind, story), True)
                    continue
                self.assertTrue(is_stream(house, story) and goes_on(house, story))
                self.assertEqual(model_broken(house, story), set())
                self.assertIn(0, stream_holds(house, story))
                raises, way, what = open_reason(house, kind)
                for told in (len(story[2]), (len(raises) > 1, len(way), what[-1] if isinstance(what[-1], str) else "ring")):
                    seen[told] = seen.get(told, 0) + 1
            for kind in range(len(house[0])):
                if model_is_held(house, kind):
                    self.assertEqual(len(open_story(house, kind)), len(held_story(house, kind)))
        self.assertGreater(seen["none"], 100)
        self.assertGreater(min(seen.get(told, 0) for told in (1, 2, 3)), 3, seen)
        for told in (
            (False, 0, "elder"), (True, 0, "elder"), (False, 0, "younger"), (False, 1, "younger"), (True, 0, "younger"),
            (True, 1, "younger"), (False, 0, "ring"), (False, 1, "ring"), (False, 2, "ring"), (True, 1, "ring"),
        ):
            self.assertGreater(seen.get(told, 0), 2, seen)

    def test_streams_are_led_on(self):
        # Person 0 is held off in far more laps than goes_on asks of.
        done = 0
        for house in HOUSES:
            for kind in range(len(house[0])):
                story = open_story(house, kind)
                if story is not None and len(story) == 4 and done < 60:
                    run = led_stream(house, story, 12)
                    self.assertIsInstance(model_words(house, run), list)
                    model = Model(house, run[0])
                    for person in run[1]:
                        model.step(person)
                    self.assertNotEqual(model.people[0].status, "ended")
                    done += 1
        self.assertEqual(done, 60)

    def test_one_kind(self):
        for keeps in (True, False):
            for elder in ("oust", "wait", "yield"):
                for younger in ("oust", "wait", "yield"):
                    house = one_kind(keeps, elder, younger)
                    story = open_story(house, 0)
                    self.assertIs(story is None, keeps and elder == "oust" and younger != "oust")
                    self.assertIs(is_open_story(house, 0, story), story is not None)
                    if story is not None:
                        self.assertIs(len(story) == 4, not model_is_held(house, 0))

    def test_raised_and_held_off_by_newcomers(self):
        # a is put out in each way, and is a b then, for whom newcomers of the kind c are the end of it.
        for couple, asker, holder in (
            (("yield", "wait"), 0, 2), (("wait", "yield"), 0, 2), (("oust", "wait"), 2, 0), (("wait", "oust"), 2, 0),
        ):
            for keeps in (True, False):
                for last in (("wait", "yield"), ("oust", "yield"), ("yield", "wait")):
                    rows = [[("oust", "wait")] * 3 for _ in range(3)]
                    rows[asker][holder] = couple
                    rows[1][1] = rows[1][2] = last
                    house = ((("a", True, 1), ("b", keeps, 1), ("c", True, 2)), ("s",), (tuple(map(tuple, rows)),))
                    story = open_story(house, 0)
                    self.assertIs(story is None, model_comes_through_open(house, 0))
                    if story is not None:
                        self.assertIs(is_open_story(house, 0, story), True)

    def test_other_kinds(self):
        for house in HOUSES[::2]:
            kinds = range(len(house[0]))
            for kind in kinds:
                story = open_story(house, kind)
                if story is not None:
                    for other in kinds:
                        self.assertIs(is_open_story(house, other, story), other == kind)

    def test_stories_and_streams(self):
        seen = {True: 0, False: 0}
        draw = random.Random(478)
        for house, lap in drawn_rounds(479, 100, words=("oust", "yield")):
            for kind in range(len(house[0])):
                self.assertIs(is_open_story(house, kind, lap), model_is_story(house, kind, lap))
                seen[is_open_story(house, kind, lap)] += 1
        for _ in range(200):
            house = drawn_house(draw, kinds=2, sorts=1, words=("wait", "wait", "oust"))
            run = drawn_run(draw, house)
            for kind in range(2):
                self.assertIs(is_open_story(house, kind, run), model_is_story(house, kind, run))
        for house in HOUSES[::2]:
            for kind in range(len(house[0])):
                story = open_story(house, kind)
                if story is not None and len(story) == 4:
                    for _ in range(10):
                        other = changed(draw, story)
                        if len(other) == 4 and is_stream(house, other):
                            held = 0 in stream_holds(house, other) and other[0][0][0] == kind
                            wanted = held and not model_broken(house, other)
                            self.assertIs(is_open_story(house, kind, other), wanted)
                            seen[wanted] += 1
        self.assertGreater(min(seen.values()), 50)

    def test_person_0_is_held_off(self):
        # Others are, person 0 is not: it is ended, or stands for a lap.
        self.assertIs(is_open_story(WAITS, 0, STREAM), True)
        programs, row, fresh, again = STREAM
        behind = ((0, ("work",)),) + programs
        later = tuple(person + 1 for person in row)
        self.assertIs(is_open_story(WAITS, 0, (behind, (0, 0) + later, fresh, again)), False)
        self.assertIs(goes_on(WAITS, (behind, (0, 0) + later, fresh, again)), True)
        self.assertIs(is_open_story(WAITS, 0, (behind, later, fresh, again)), False)
        self.assertIs(goes_on(WAITS, (behind, later, fresh, again)), False)

    def test_any_value(self):
        for house, story in ((WAITS, STREAM), (WAITS, open_story(WAITS, 0)), (OUSTS, open_story(one_kind(True, "wait", "wait"), 0))):
            self.assertIs(is_open_story(house, 0, story), house == WAITS)
            for thing in junk() + [Hall(house), list(story), [story], story[:1], story + ((),), (story,), story[::-1], ((),) * 4]:
                self.assertIs(is_open_story(house, 0, thing), False)
            for thing in changed_tuples(story, lambda part: [list(part), part + (None,), None, (part,), "", {}]):
                self.assertIs(is_open_story(house, 0, thing), False)
            spoilt = lambda leaf: [None, [], {}, -1, "x", bool(leaf), Hall(house), str(leaf)]
            for thing in changed_leaves(story, lambda leaf: [one for one in spoilt(leaf) if one != leaf or one is True]):
                self.assertIs(is_open_story(house, 0, thing), False, thing)


class TestOpenRankings(unittest.TestCase):
    def test_open_ranking(self):
        seen = set()
        for house in HOUSES:
            ranking = open_ranking(house)
            held = model_open_nodes(house)
            self.assertEqual(list(ranking), [node for node in model_nodes(house) if node not in held])
            self.assertEqual({rank.__class__ for rank in ranking.values()} - {int}, set())
            self.assertIs(is_open_ranking(house, ranking), True)
            self.assertTrue(is_open_ranking_by_rule(house, ranking))
            # Who comes through in an open house does so in a closed one.
            self.assertIs(is_ranking(house, ranking), True)
            seen.add((len(ranking) == 0, len(held) == 0))
            ranking.clear()
            self.assertEqual(len(open_ranking(house)) + len(held), len(model_nodes(house)))
        self.assertEqual(seen, {(True, False), (False, True), (False, False)})

    def test_is_open_ranking(self):
        draw = random.Random(480)
        seen = {True: 0, False: 0}
        for house in HOUSES:
            ranking = open_ranking(house)
            for _ in range(4):
                most = draw.choice([0, 1, 3])
                nodes = [node for node in model_nodes(house) if draw.random() < 0.8]
                drawn = {node: draw.randint(-most, most) for node in nodes}
                nearly = {node: rank + draw.choice([0, 0, 0, 1, -1]) for node, rank in ranking.items()}
                for paper in (drawn, nearly):
                    self.assertIs(is_open_ranking(house, paper), is_open_ranking_by_rule(house, paper), (house, paper))
                    seen[is_open_ranking(house, paper)] += 1
        self.assertGreater(min(seen.values()), 300)

    def test_an_open_ranking_otherwise(self):
        seen = {True: 0, False: 0}
        for house in HOUSES[::2]:
            ranking = open_ranking(house)
            self.assertIs(is_open_ranking(house, {node: ranking[node] for node in reversed(list(ranking))}), True)
            self.assertIs(is_open_ranking(house, {node: rank * 10 ** 38 - 5 for node, rank in ranking.items()}), True)
            others = [{one: ranking[one] for one in ranking if one != node} for node in ranking]
            for node in ranking:
                others += [{**ranking, node: rank} for rank in set(ranking.values()) | {-1, 99}]
            others += [{**ranking, node: 99} for node in model_open_nodes(house)]
            for paper in others:
                self.assertIs(is_open_ranking(house, paper), is_open_ranking_by_rule(house, paper))
                seen[is_open_ranking(house, paper)] += 1
        self.assertGreater(min(seen.values()), 100)

    def test_nodes_with_outs(self):
        for keeps in (True, False):
            # An elder one puts a out; nobody does; a younger one does.
            for words, outs in ((("oust", "wait"), ["elder"]), (("wait", "wait"), []), (("yield", "wait"), ["younger"])):
                house = one_kind(keeps, *words)
                wanted = not outs or (keeps and outs == ["elder"])
                paper = {("anew", 0): 0, ("stand", 0): 0}
                self.assertIs(is_open_ranking(house, paper), wanted and words[0] != "wait")
                self.assertEqual(("anew", 0) in open_ranking(house), wanted)

    def test_outs_that_make_no_edge(self):
        # c, which rises, ousts a: no edge tells of it, but a's node is held off by it.
        for side, keeps, wanted in ((0, True, True), (1, True, False), (0, False, False), (1, False, False)):
            couple = ("oust", "wait") if side == 0 else ("wait", "oust")
            rows = ((("wait", "wait"),) * 3, (couple,) + (("wait", "wait"),) * 2, (("wait", "wait"),) * 3)
            house = ((("a", keeps, 0), ("c", True, 2), ("b", True, 2)), ("s",), (rows,))
            self.assertEqual(model_kept_edges(house), [edge for edge in model_kept_edges(house) if edge[0][0] == "stand"])
            self.assertIs(is_open_ranking(house, {("anew", 0): 4}), wanted)
            self.assertIs(("anew", 0) in open_ranking(house), wanted)
            self.assertIs(is_open_ranking(house, {("anew", 2): 4}), True)

    def test_younger_at_one_integer(self):
        for words, wanted in ((("oust", "wait"), True), (("wait", "oust"), False)):
            house = one_kind(True, *words)
            self.assertIs(is_open_ranking(house, {("stand", 0): 7}), wanted)
        rows = ((("oust", "oust"), ("wait", "oust")), (("oust", "oust"), ("oust", "oust")))
        house = ((("a", True, 0), ("b", True, 1)), ("s",), (rows,))
        for one, other in ((0, 0), (1, 0), (0, 1)):
            self.assertIs(is_open_ranking(house, {("stand", 0): one, ("stand", 1): other}), one > other)
        self.assertIs(is_open_ranking(house, {("stand", 0): 3}), False)
        self.assertIs(is_open_ranking(house, {("stand", 1): 3}), True)

    def test_any_value(self):
        for house in HOUSES[:80] + [OUSTS]:
            self.assertIs(is_open_ranking(house, {}), True)
            for thing in [one for one in junk() if one != {}]:
                self.assertIs(is_open_ranking(house, thing), False)
            ranking = open_ranking(house)
            if not ranking:
                continue
            for thing in never_papers(ranking):
                self.assertIs(is_open_ranking(house, thing), False, thing)
            for node, rank in ranking.items():
                for other in (bool(rank), None, str(rank), [rank], (rank,), {}, (rank, "elder")):
                    self.assertIs(is_open_ranking(house, {**ranking, node: other}), False)

    def test_shown_open(self):
        draw = random.Random(481)
        fewer = 0
        for house in HOUSES:
            kinds = range(len(house[0]))
            ranking = open_ranking(house)
            through = [kind for kind in kinds if model_comes_through_open(house, kind)]
            self.assertEqual(shown_open(house, ranking), through)
            self.assertEqual(through, open_kinds(house))
            ranking = {node: rank for node, rank in ranking.items() if draw.random() < 0.8}
            wanted = [kind for kind in kinds if all(node in ranking for node in model_nodes_ever(house, kind))]
            self.assertEqual(shown_open(house, ranking), wanted)
            fewer += len(wanted) < len(through)
            shown_open(house, ranking).append(None)
            self.assertEqual(shown_open(house, ranking), wanted)
        self.assertGreater(fewer, 5)


if __name__ == "__main__":
    unittest.main()
