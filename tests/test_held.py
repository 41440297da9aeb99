"""[35] and [36]: who can be held off, plans of how, and stories of it."""

import random
import unittest

from comesthrough.hall import Hall
from comesthrough.held import can_be_held, held_kinds, held_nodes, held_plan
from comesthrough.runs import held_off, is_fair, is_round, is_run, is_stuck, led
from comesthrough.stories import held_story, is_story, story_of
from comesthrough.walks import is_turning, is_walk
from tests.model import (
    drawn_plan, drawn_rounds, drawn_run, model_held_nodes, model_is_held, model_is_story, model_nodes_of, model_outs,
    model_outs_done, model_raised, model_unfair, persons_enough, tight_run,
)
from tests.samples import changed_leaves, changed_tuples, drawn_house, drawn_houses, junk

HOUSES = (
    drawn_houses(350, 60) + drawn_houses(351, 60, words=("oust", "yield")) + drawn_houses(352, 40, words=("wait", "yield"))
    + drawn_houses(353, 40, kinds=1) + drawn_houses(354, 40, kinds=3, sorts=1, words=("oust", "oust", "yield", "wait"))
    + drawn_houses(355, 30, kinds=5, sorts=1, words=("yield", "yield", "oust", "wait"))
)
WAITS = ((("a", True, 0),), ("s",), (((("wait", "wait"),),),))
MOVING = ((("a", False, 0),), ("s",), (((("yield", "wait"),),),))


def one_kind(keeps, elder, younger):
    return ((("a", keeps, 0),), ("s",), ((((elder, younger),),),))


def steps_many(story):
    return len(story[1]) + (len(story[2]) if len(story) == 3 else 0)


class TestHeld(unittest.TestCase):
    def test_by_the_graph(self):
        seen, raised_only = set(), 0
        for house in HOUSES:
            kinds = range(len(house[0]))
            held = model_held_nodes(house)
            self.assertEqual(held_nodes(house), held)
            for kind in kinds:
                self.assertIs(can_be_held(house, kind), model_is_held(house, kind))
                own = [node for node in model_nodes_of(house, kind) if node in held]
                raised_only += can_be_held(house, kind) and not own
            self.assertEqual(held_kinds(house), [kind for kind in kinds if model_is_held(house, kind)])
            seen.add((held_kinds(house) == [], len(held_kinds(house)) == len(kinds)))
            held_kinds(house).append(None)
            held_nodes(house).clear()
            self.assertEqual(held_nodes(house), held)
            self.assertEqual(held_kinds(house), [kind for kind in kinds if model_is_held(house, kind)])
        self.assertEqual(seen, {(True, False), (False, True), (False, False)})
        self.assertGreater(raised_only, 10)

    def test_one_kind(self):
        held = [
            (keeps, elder, younger)
            for keeps in (True, False) for elder in ("oust", "wait", "yield") for younger in ("oust", "wait", "yield")
            if can_be_held(one_kind(keeps, elder, younger), 0)
        ]
        self.assertEqual(held, [
            (True, "oust", "oust"), (True, "wait", "wait"), (True, "yield", "yield"),
            (False, "oust", "oust"), (False, "wait", "oust"), (False, "wait", "wait"), (False, "yield", "oust"),
            (False, "yield", "wait"), (False, "yield", "yield"),
        ])

    def test_plans(self):
        seen = set()
        for house in HOUSES:
            for kind in range(len(house[0])):
                plan = held_plan(house, kind)
                self.assertEqual(plan, held_plan(house, kind))
                if not model_is_held(house, kind):
                    self.assertIsNone(plan)
                    continue
                raises, way, ring = plan
                self.assertEqual(raises, model_raised(house, kind)[:len(raises)])
                self.assertEqual(len(set(raises)), len(raises))
                for one, other in zip(raises, raises[1:]):
                    self.assertEqual(house[0][one][2], other)
                    self.assertTrue(model_outs(house, one))
                self.assertTrue(is_walk(house, way) and is_walk(house, ring) and is_walk(house, way + ring))
                self.assertIn((way + ring)[0][0], model_nodes_of(house, raises[-1]))
                self.assertEqual(ring[0][0], ring[-1][1])
                self.assertIs(is_turning(house, ring), True)
                seen.add((len(raises), min(len(way), 2), min(len(ring), 3)))
        for at in range(3):
            self.assertGreaterEqual(len({one[at] for one in seen}), 3)

    def test_raises_of_plans(self):
        kinds = (("a", True, 1), ("b", True, 1))
        # Who is never put out waits for the elder ones and for the younger ones of its own kind.
        rows = ((("wait", "wait"), ("wait", "wait")), (("wait", "wait"), ("yield", "yield")))
        self.assertEqual(held_plan((kinds, ("s",), (rows,)), 0)[0], (0,))
        rows = ((("wait", "oust"), ("wait", "oust")), (("wait", "yield"), ("yield", "yield")))
        self.assertEqual(held_plan((kinds, ("s",), (rows,)), 0)[0], (0, 1))


class TestStories(unittest.TestCase):
    def check_story(self, house, kind, story, most):
        """A story is led by the words of the Hall, and by those of the model."""
        self.assertIs(is_story(house, kind, story), True)
        programs = story[0]
        self.assertLessEqual(len(programs), most)
        self.assertLessEqual(steps_many(story), 100 * len(programs))
        self.assertEqual(programs[0][0], kind)
        self.assertIs(led(house, story[:2]).is_ended(0), False)
        if len(story) == 2:
            self.assertTrue(is_run(house, story) and is_stuck(house, story))
        else:
            self.assertTrue(is_round(house, story) and is_fair(house, story))
            self.assertIn(0, held_off(house, story))
        self.assertIs(model_is_story(house, kind, story), True)

    def test_held_story(self):
        seen = set()
        for house in HOUSES:
            for kind in range(len(house[0])):
                story = held_story(house, kind)
                self.assertEqual(story, held_story(house, kind))
                if not model_is_held(house, kind):
                    self.assertIsNone(story)
                    continue
                self.check_story(house, kind, story, persons_enough(house, held_plan(house, kind)))
                seen.add(len(story))
        self.assertEqual(seen, {2, 3})

    def test_stories_of_drawn_plans(self):
        draw = random.Random(356)
        seen, lengths = {}, []
        rising = drawn_houses(357, 150, kinds=4, sorts=1, words=("oust", "yield", "yield"))
        for house in HOUSES + rising + [house for house in rising for _ in range(3)]:
            for kind in range(len(house[0])):
                plan = drawn_plan(draw, house, kind, draw.choice([2, 4, 8, 20]))
                if plan is None:
                    continue
                story = story_of(house, plan)
                self.check_story(house, kind, story, persons_enough(house, plan))
                self.assertEqual(story, story_of(house, plan))
                moves = {edge[0][0] == "anew" and not house[0][edge[0][1]][1] for edge in plan[2]}
                told = (plan[2][0][0][0], len(plan[0]), len(plan[1]) > 0, tuple(sorted(moves)))
                seen[told] = seen.get(told, 0) + 1
                lengths.append(len(plan[2]))
        for told in (
            ("stand", 1, False, (False,)), ("stand", 1, True, (False,)), ("stand", 2, True, (False,)),
            ("anew", 1, False, (False,)), ("anew", 1, True, (False,)), ("anew", 1, False, (True,)), ("anew", 1, True, (True,)),
            ("anew", 1, True, (False, True)), ("anew", 1, False, (False, True)), ("anew", 2, False, (False,)),
            ("anew", 2, False, (True,)), ("anew", 2, True, (True,)), ("stand", 3, True, (False,)), ("anew", 3, False, (True,)),
        ):
            self.assertIn(told, seen)
        self.assertGreater(len([many for many in lengths if many > 8]), 30)

    def test_sixty_edges(self):
        draw = random.Random(358)
        done, moving = 0, 0
        while done < 25:
            house = drawn_house(draw, words=("oust", "yield", "yield", "wait"))
            plan = drawn_plan(draw, house, 0, 60)
            if plan is None or len(plan[1] + plan[2]) < 40:
                continue
            self.check_story(house, 0, story_of(house, plan), persons_enough(house, plan))
            done += 1
            moving += persons_enough(house, plan) > len(plan[0] + plan[1] + plan[2])
        self.assertGreater(moving, 3)

    def test_rounds_gone_round_twice(self):
        for house in HOUSES:
            for kind in range(len(house[0])):
                plan = held_plan(house, kind)
                if plan is not None:
                    for times in (2, 3):
                        longer = (plan[0], plan[1] + plan[2], plan[2] * times)
                        self.check_story(house, kind, story_of(house, longer), persons_enough(house, longer))

    def test_each_order_of_words_between_moving_nodes(self):
        words = ("yield", "yield")
        for keeps in ((False, False), (True, False), (False, True)):
            kinds = (("a", keeps[0], 0), ("b", keeps[1], 1))
            for rows in (((words, words), (words, words)), ((("oust", "oust"),) * 2,) * 2, ((words, ("oust", "oust")),) * 2):
                house = (kinds, ("s",), (rows,))
                draw = random.Random(359)
                for most in list(range(1, 12)) * 8:
                    plan = drawn_plan(draw, house, 0, most)
                    if plan is not None:
                        self.check_story(house, 0, story_of(house, plan), persons_enough(house, plan))

    def test_one_edge_round(self):
        edge = (("anew", 0), ("anew", 0), "younger")
        for words in (("yield", "wait"), ("wait", "oust"), ("yield", "yield"), ("oust", "oust"), ("oust", "yield")):
            house = one_kind(False, *words)
            if words == ("oust", "yield"):
                self.assertIsNone(held_story(house, 0))
                continue
            for plan in (((0,), (), (edge,)), ((0,), (edge,), (edge,)), ((0,), (edge, edge), (edge, edge))):
                self.check_story(house, 0, story_of(house, plan), persons_enough(house, plan))

    def test_raised_in_each_way(self):
        for word in ("yield", "oust"):
            for side in (0, 1):
                for keeps in (True, False):
                    couple = (word, "wait") if side == 0 else ("wait", word)
                    rows = [[("wait", "wait"), ("wait", "wait")], [("wait", "wait"), ("yield", "yield")]]
                    at = (0, 1) if word == "yield" else (1, 0)
                    rows[at[0]][at[1]] = couple
                    house = ((("a", keeps, 1), ("b", False, 1)), ("s",), (tuple(tuple(row) for row in rows),))
                    story = story_of(house, ((0, 1), (), ((("anew", 1), ("anew", 1), "younger"),)))
                    self.check_story(house, 0, story, 4)
                    other = ("younger", "elder")[side] if word == "yield" else ("elder", "younger")[side]
                    done = [told[1:4] for told in model_outs_done(house, story[:2]) if told[0] == 0]
                    self.assertEqual(done[0], (0, word, other))

    def test_raised_twice(self):
        kinds = (("a", True, 1), ("b", False, 2), ("c", True, 2))
        couples = [("yield", "wait"), ("wait", "yield"), ("oust", "wait"), ("wait", "oust")]
        for first in couples:
            for second in couples:
                rows = [[("wait", "wait")] * 3 for _ in range(3)]
                rows[0][2] = first if "yield" in first else rows[0][2]
                rows[2][0] = first if "oust" in first else rows[2][0]
                rows[1][2] = second if "yield" in second else rows[1][2]
                rows[2][1] = second if "oust" in second else rows[2][1]
                house = (kinds, ("s",), (tuple(tuple(row) for row in rows),))
                ring = ((("stand", 2), ("stand", 2), "younger"), (("stand", 2), ("stand", 2), "elder"))
                story = story_of(house, ((0, 1, 2), (), ring))
                self.check_story(house, 0, story, 5)
                self.assertEqual(led(house, story).kind_of(0), 2)
                self.assertEqual([told[1] for told in model_outs_done(house, story)], [0, 1])


class TestIsStory(unittest.TestCase):
    def test_against_the_model(self):
        draw = random.Random(360)
        seen = set()
        for _ in range(500):
            house = drawn_house(draw, kinds=2, sorts=1, words=("wait", "wait", "oust"))
            run = tight_run(draw, house) if draw.random() < 0.7 else drawn_run(draw, house)
            for kind in (0, 1):
                self.assertIs(is_story(house, kind, run), model_is_story(house, kind, run))
                seen.add(is_story(house, kind, run))
        for house, lap in drawn_rounds(361, 300) + drawn_rounds(362, 300, words=("oust", "yield")):
            for kind in range(len(house[0])):
                self.assertIs(is_story(house, kind, lap), model_is_story(house, kind, lap))
                seen.add((is_story(house, kind, lap), model_unfair(house, lap) == []))
        self.assertEqual(seen, {True, False, (True, True), (False, True), (False, False)})

    def test_steps_otherwise(self):
        draw = random.Random(363)
        seen = {True: 0, False: 0}
        for house in HOUSES[:60] + HOUSES[-60:]:
            for kind in held_kinds(house)[:1]:
                story = held_story(house, kind)
                others = [story[:2], story + ((),), story[:1], story + (story[1],), (story[0], story[1], story[1])]
                for at in range(1, len(story)):
                    row = story[at]
                    index = draw.randrange(len(row))
                    for steps in (row[:-1], row[1:], row + row[-1:], row + (0,), row[:index] + row[index + 1:], row[::-1],
                                  row[:index] + (draw.randrange(len(story[0])),) + row[index + 1:], ()):
                        others.append(story[:at] + (steps,) + story[at + 1:])
                others.append((story[0][::-1],) + story[1:])
                others.append((story[0][:-1],) + story[1:])
                others.append((story[0] + story[0][:1],) + story[1:])
                for thing in others:
                    wanted = len(thing) in (2, 3) and model_is_story(house, kind, thing)
                    self.assertIs(is_story(house, kind, thing), wanted, (house, thing))
                    seen[wanted] += 1
        self.assertGreater(min(seen.values()), 100)

    def test_another_kind(self):
        for house in HOUSES:
            for kind in held_kinds(house):
                story = held_story(house, kind)
                for other in range(len(house[0])):
                    self.assertIs(is_story(house, other, story), other == kind)

    def test_any_value(self):
        standing = held_story(WAITS, 0)
        going = held_story(MOVING, 0)
        for house, story in ((WAITS, standing), (MOVING, going)):
            self.assertIs(is_story(house, 0, story), True)
            for thing in junk() + [Hall(house), led(house, story[:2]), ((), ()), ((), (), ()), list(story), [story], story[0]]:
                self.assertIs(is_story(house, 0, thing), False)
            for thing in changed_leaves(story, lambda leaf: [None, [], {}, -1, "x", bool(leaf), 10 ** 39]):
                self.assertIs(is_story(house, 0, thing), False)
            for thing in changed_tuples(story, lambda part: [list(part), part + (None,), None, (part,), "", {}]):
                self.assertIs(is_story(house, 0, thing), False)

    def test_who_is_held_off_is_person_0(self):
        programs = ((0, ("work",)),) + held_story(WAITS, 0)[0]
        row = (0, 0) + tuple(person + 1 for person in held_story(WAITS, 0)[1])
        self.assertTrue(is_stuck(WAITS, (programs, row)))
        self.assertIs(is_story(WAITS, 0, (programs, row)), False)
        programs, row, again = held_story(MOVING, 0)
        ahead = ((0, ("work",)),) + programs
        lap = (ahead, (0, 0) + tuple(person + 1 for person in row), tuple(person + 1 for person in again))
        self.assertTrue(is_round(MOVING, lap) and is_fair(MOVING, lap))
        self.assertIs(is_story(MOVING, 0, lap), False)

    def test_unfair_rounds(self):
        programs, row, again = held_story(MOVING, 0)
        behind = programs + ((0, ("work",)),)
        self.assertIs(is_round(MOVING, (behind, row, again)), True)
        self.assertIs(is_story(MOVING, 0, (behind, row, again)), False)
        self.assertIs(is_story(MOVING, 0, (behind, row + (len(programs),) * 2, again)), True)


if __name__ == "__main__":
    unittest.main()
