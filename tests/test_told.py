"""[61]: who of told programs can be held off."""

import itertools
import random
import unittest

from comesthrough.errors import TooMany
from comesthrough.hall import Hall
from comesthrough.held import can_be_held
from comesthrough.runs import is_round, is_run
from comesthrough.search import states_many
from comesthrough.stories import held_story
from comesthrough.told import held_persons, is_safe, is_told_story, least_company, safe_orders, told_story
from tests.model import model_unfair, model_words, run_on
from tests.samples import aged_houses, changed_leaves, changed_tuples, drawn_house, drawn_houses, drawn_program, junk, refusal
from tests.searchmodel import model_behind, model_held
from tests.test_search import drawn_cases, tight_cases, works

HOUSE = ((("k", True, 0),), ("s",), (((("wait", "wait"),),),))
ONE, OTHER = (0, ((0, 1), (0, 2))), (0, ((0, 2), (0, 1)))


def model_is_told(house, programs, person, thing):
    """Whether a tuple with the form of a run or a round is a story of a person of these programs, by [6]."""
    if thing[0] != programs:
        return False
    row, again = thing[1], thing[2] if len(thing) == 3 else ()
    if not isinstance(model_words(house, (programs, row + again)), list):
        return False
    behind = model_behind(house, programs, row)
    if behind.people[person].status == "ended":
        return False
    if len(thing) == 2:
        return not any(behind.can_step(one) for one in range(len(programs)))
    if not again or model_behind(house, programs, row + again).state() != behind.state():
        return False
    return model_unfair(house, thing) == []


def small_cases(seed, many, held, most=160):
    """Couples of a house and one to four programs whose fair runs can all be searched.

    held of them, at least, are such that somebody is held off, so that there are enough of each sort.
    """
    draw = random.Random(seed)
    found = []
    while len(found) < many:
        house = drawn_house(draw, kinds=draw.randint(1, 2), sorts=1, words=draw.choice(STYLES))
        locks = [(0, number) for number in range(2)]
        programs = tuple(
            (draw.randrange(len(house[0])), tuple(draw.sample(locks, draw.randint(1, 2)) + ["work"] * draw.randint(0, 1)))
            for _ in range(draw.choice([1, 2, 2, 2, 3, 3, 3, 3, 4]))
        )
        if refusal(states_many, house, programs) or states_many(house, programs) > most:
            continue
        if len(found) >= held or held_persons(house, programs):
            found.append((house, programs))
    return found


STYLES = (("oust", "wait", "yield"), ("yield",), ("wait", "yield"), ("oust",), ("oust", "yield"), ("wait",), ("yield", "yield", "oust"))
CASES = small_cases(660, 150, 90) + tight_cases(661, 30, most=250) + drawn_cases(662, 20, most=250)


class TestToldStory(unittest.TestCase):
    def test_the_example(self):
        self.assertEqual(held_persons(HOUSE, (ONE, OTHER)), [0, 1])
        self.assertIs(is_safe(HOUSE, (ONE, ONE)), True)
        self.assertEqual(safe_orders(HOUSE, (ONE, OTHER), 1), [((0, 1), (0, 2))])
        self.assertEqual(least_company(HOUSE, (ONE, OTHER, ONE), 2), [(1,)])
        self.assertIsNone(told_story(HOUSE, (ONE, ONE), 0))

    def test_against_all_fair_runs(self):
        seen = {}
        for house, programs in CASES:
            held = model_held(house, programs)
            self.assertEqual(held_persons(house, programs), held)
            self.assertIs(is_safe(house, programs), held == [])
            held_persons(house, programs).append(9)
            self.assertEqual(held_persons(house, programs), held)
            for person in range(len(programs)):
                story = told_story(house, programs, person)
                self.assertIs(story is not None, person in held)
                self.assertEqual(story, told_story(house, programs, person))
                told = 0 if story is None else len(story)
                seen[told] = seen.get(told, 0) + 1
                if story is not None:
                    self.assertEqual(story[0], programs)
                    self.assertTrue(model_is_told(house, programs, person, story))
                    self.assertIs(is_told_story(house, programs, person, story), True)
        self.assertEqual(sorted(seen), [0, 2, 3])
        self.assertGreater(min(seen.values()), 20, seen)

    def test_larger_halls(self):
        # What is found here is too much for the plain search, so each story is led on its own.
        draw = random.Random(663)
        done = {2: 0, 3: 0}
        for house in drawn_houses(664, 60, kinds=2, sorts=1) + aged_houses(665, 30, kinds=1):
            locks = [(0, number) for number in range(3)]
            programs = tuple(
                (draw.randrange(len(house[0])), tuple(draw.sample(locks, draw.choice([2, 3])))) for _ in range(draw.randint(3, 4))
            )
            if refusal(states_many, house, programs) is None:
                for person in held_persons(house, programs):
                    story = told_story(house, programs, person)
                    self.assertTrue(model_is_told(house, programs, person, story))
                    done[len(story)] += 1
        self.assertGreater(min(done.values()), 20, done)

    def test_stories_of_the_whole_house_are_found(self):
        # Person 0 of held_story is held off, so it is among those that these programs hold off.
        done = 0
        for house in drawn_houses(666, 60) + aged_houses(667, 60):
            for kind in range(len(house[0])):
                story = held_story(house, kind)
                if story is not None and len(story[0]) < 4 and refusal(states_many, house, story[0]) is None:
                    self.assertIs(is_told_story(house, story[0], 0, story), True)
                    self.assertIn(0, held_persons(house, story[0]))
                    self.assertIsNotNone(told_story(house, story[0], 0))
                    done += 1
        self.assertGreater(done, 60)

    def test_kinds_that_come_through(self):
        draw = random.Random(668)
        done = 0
        for house in aged_houses(669, 250):
            safe = [kind for kind in range(len(house[0])) if not can_be_held(house, kind)]
            if safe:
                programs = tuple((draw.choice(safe), drawn_program(draw, house, 2, 3)[1]) for _ in range(3))
                if refusal(states_many, house, programs) is None:
                    self.assertIs(is_safe(house, programs), True)
                    self.assertEqual(held_persons(house, programs), [])
                    done += 1
        self.assertGreater(done, 60)

    def test_held_off_only_once_raised(self):
        # Only b waits for its like whatever their ages; and only by c can an a be put out, which is a b then.
        always, never, elder = ("wait", "wait"), ("oust", "oust"), ("oust", "wait")
        judge = ((always, never, ("wait", "yield")), (always, always, elder), (elder, elder, elder))
        house = ((("a", True, 1), ("b", True, 1), ("c", True, 2)), ("s",), (judge,))
        a, b, c = (0, ((0, 3), (0, 1), (0, 2))), (1, ((0, 2), (0, 1))), (2, ((0, 3), "work"))
        for programs, held in (((a, b), []), ((a, c), []), ((b, c), []), ((a, b, c), [0, 1])):
            self.assertEqual(held_persons(house, programs), held)
            self.assertEqual(model_held(house, programs), held)
        self.assertEqual(model_behind(house, *told_story(house, (a, b, c), 0)).people[0].kind, 1)
        self.assertEqual([least_company(house, (a, b, c), person) for person in range(3)], [[(1, 2)], [(0, 2)], []])

    def test_held_off_only_while_others_step_for_ever(self):
        # The first two yield to each other for ever, and the third one asks for what one of them has now and then.
        # If it yields, it may ask at the wrong moments for ever; if it waits, it finds the lock free, and has to take it.
        yields = (((("yield", "yield"),) * 3,) * 2 + ((("wait", "wait"),) * 3,),)
        house = ((("k", False, 0), ("y", True, 1), ("w", True, 2)), ("s",), yields)
        one, other = (0, ((0, 1), "work", (0, 2))), (0, ((0, 2), "work", (0, 1)))
        for deeds in (((0, 1),), ((0, 1), "work"), ((0, 1), (0, 2)), ((0, 5), (0, 1))):
            for kind, held in ((1, [0, 1, 2]), (2, [0, 1])):
                programs = (one, other, (kind, deeds))
                self.assertEqual(held_persons(house, programs), held)
                self.assertEqual(model_held(house, programs), held)
                for person in held:
                    story = told_story(house, programs, person)
                    self.assertTrue(model_is_told(house, programs, person, story))
                    self.assertGreaterEqual(set(story[2]), {0, 1})
                self.assertEqual(least_company(house, programs, 2), [(0, 1)] if 2 in held else [])

    def test_held_off_only_by_standing(self):
        story = told_story(HOUSE, (ONE, OTHER), 1)
        self.assertEqual(len(story), 2)
        self.assertTrue(model_is_told(HOUSE, (ONE, OTHER), 1, story))

    def test_one_program_alone(self):
        draw = random.Random(670)
        for house in drawn_houses(671, 20):
            program = drawn_program(draw, house, 3, 5)
            self.assertIsNone(told_story(house, (program,), 0))
            self.assertEqual(held_persons(house, (program,)), [])
            self.assertEqual(least_company(house, (program,), 0), [])


class TestIsToldStory(unittest.TestCase):
    def test_others_of_the_same_form(self):
        draw = random.Random(672)
        seen = {}
        for house, programs in CASES:
            persons = range(len(programs))
            for person in held_persons(house, programs):
                story = told_story(house, programs, person)
                things = [story]
                for part in range(1, len(story)):
                    row = story[part]
                    for at in range(len(row) + 1):
                        rows = [row[:at] + row[at + 1:], row[:at] + (draw.choice(persons),) + row[at:]]
                        rows.append(row[:at] + (draw.choice(persons),) + row[at + 1:])
                        things.extend(story[:part] + (other,) + story[part + 1:] for other in rows)
                things.append(story[:2])
                things.append(story[:2] + ((),))
                things.append(story[:2] + ((draw.choice(persons),) * 2,))
                for thing in draw.sample(things, min(len(things), 14)) + [story]:
                    for other in persons:
                        wanted = model_is_told(house, programs, other, thing)
                        self.assertIs(is_told_story(house, programs, other, thing), wanted)
                        seen[wanted, len(thing)] = seen.get((wanted, len(thing)), 0) + 1
        self.assertGreater(min(seen[told] for told in itertools.product((True, False), (2, 3))), 30, seen)

    def test_stories_of_other_programs(self):
        draw = random.Random(673)
        for house, programs in CASES:
            held = held_persons(house, programs)
            if held:
                story = told_story(house, programs, held[0])
                more = programs + (drawn_program(draw, house, 2, 2),)
                if refusal(states_many, house, more) is None:
                    self.assertIs(is_told_story(house, more, held[0], story), False)
                if len(programs) > 1:
                    self.assertIs(is_told_story(house, programs[:-1], 0, story), False)
                other = programs[:-1] + ((programs[-1][0], programs[-1][1] + ("work",)),)
                self.assertIs(is_told_story(house, other, held[0], story), False)

    def test_rounds_that_are_not_fair(self):
        draw = random.Random(674)
        seen = {True: 0, False: 0}
        for house, programs in CASES:
            for _ in range(3):
                row = run_on(draw, house, programs, 40)[1]
                states = [model_behind(house, programs, row[:at]).state() for at in range(len(row) + 1)]
                pairs = [one for one in itertools.combinations(range(len(states)), 2) if states[one[0]] == states[one[1]]]
                for one, other in draw.sample(pairs, min(len(pairs), 4)):
                    lap = (programs, row[:one], row[one:other])
                    self.assertIs(is_round(house, lap), True)
                    for person in range(len(programs)):
                        wanted = model_is_told(house, programs, person, lap)
                        self.assertIs(is_told_story(house, programs, person, lap), wanted)
                        seen[wanted] += 1
        self.assertGreater(min(seen.values()), 20, seen)

    def test_a_round_may_begin_elsewhere_and_be_gone_twice(self):
        done = 0
        for house, programs in CASES:
            for person in held_persons(house, programs):
                story = told_story(house, programs, person)
                if len(story) == 3:
                    _, row, again = story
                    for at in range(1, len(again)):
                        turned = (programs, row + again[:at], again[at:] + again[:at])
                        self.assertIs(is_told_story(house, programs, person, turned), True)
                    self.assertIs(is_told_story(house, programs, person, (programs, row, again * 2)), True)
                    done += 1
        self.assertGreater(done, 30)

    def test_runs_behind_which_somebody_can_step(self):
        draw = random.Random(675)
        for house, programs in CASES[::2]:
            programs, row = run_on(draw, house, programs, 30)
            for at in range(len(row) + 1):
                self.assertIs(is_run(house, (programs, row[:at])), True)
                for person in range(len(programs)):
                    wanted = model_is_told(house, programs, person, (programs, row[:at]))
                    self.assertIs(is_told_story(house, programs, person, (programs, row[:at])), wanted)

    def test_any_value(self):
        stands = (HOUSE, (ONE, OTHER))
        never = (HOUSE[0], HOUSE[1], (((("yield", "yield"),),),))
        yields = (never, ((0, ((0, 1), "work", (0, 2))), (0, ((0, 2), "work", (0, 1)))))
        for house, programs in (stands, yields):
            story = told_story(house, programs, 0)
            self.assertIs(is_told_story(house, programs, 0, story), True)
            for thing in junk() + [Hall(house), list(story), [story], (story,), story[0], ((), ()), ((), (), ())]:
                self.assertIs(is_told_story(house, programs, 0, thing), False, thing)
            for thing in changed_leaves(story, lambda leaf: [None, [], {}, -1, "x", 10 ** 39, (leaf,), bool(leaf), 2.5]):
                self.assertIs(is_told_story(house, programs, 0, thing), False, thing)
            for thing in changed_tuples(story, lambda part: [list(part), part + (None,), None, (part,), "", {}]):
                self.assertIs(is_told_story(house, programs, 0, thing), False, thing)


class TestSafeOrders(unittest.TestCase):
    def key(self, order):
        return [(-1, -1) if deed == "work" else deed for deed in order]

    def wanted(self, house, programs, person):
        orders = sorted(set(itertools.permutations(programs[person][1])), key=self.key)
        kind = programs[person][0]
        return [
            order for order in orders
            if model_held(house, programs[:person] + ((kind, order),) + programs[person + 1:]) == []
        ]

    def test_against_all_orders(self):
        seen = {}
        for house, programs in [case for case in CASES if states_many(*case) < 100]:
            for person in range(len(programs)):
                if len(programs[person][1]) < 4:
                    wanted = self.wanted(house, programs, person)
                    self.assertEqual(safe_orders(house, programs, person), wanted)
                    orders = len(set(itertools.permutations(programs[person][1])))
                    told = (len(wanted) == 0, len(wanted) == orders)
                    seen[told] = seen.get(told, 0) + 1
                    safe_orders(house, programs, person).clear()
        self.assertEqual(sorted(seen), [(False, False), (False, True), (True, False)])

    def test_work_is_less_than_each_lock_and_alike_deeds_once(self):
        deeds = ("work", (0, 7), "work", (0, 0))
        orders = safe_orders(HOUSE, ((0, deeds),), 0)
        self.assertEqual(len(orders), 12)
        self.assertEqual(orders, sorted(set(itertools.permutations(deeds)), key=self.key))
        self.assertEqual(orders[0], ("work", "work", (0, 0), (0, 7)))
        self.assertEqual(orders[-1], ((0, 7), (0, 0), "work", "work"))
        self.assertEqual(safe_orders(HOUSE, ((0, ("work",) * 16),), 0), [("work",) * 16])
        self.assertEqual(len(safe_orders(HOUSE, ((0, ((0, 1),) + ("work",) * 15),), 0)), 16)

    def test_too_many_orders(self):
        locks = tuple((0, number) for number in range(6))
        for deeds, many in (
            (locks[:4], 24), (locks[:4] + ("work",), 120), (locks[:5], 120), (locks[:3] + ("work",), 24),
            (locks[:3] + ("work",) * 2, 60), (locks[:2] + ("work",) * 3, 20), (locks[:2] + ("work",) * 4, 30),
            (locks[:1] + ("work",) * 23, 24), (locks[:1] + ("work",) * 24, 25), (locks, 720),
        ):
            refused = refusal(safe_orders, HOUSE, ((0, deeds),), 0)
            if many > 24:
                self.assertEqual((refused.__class__, refused.most), (TooMany, 24), deeds)
            else:
                self.assertIsNone(refused, deeds)
                self.assertEqual(len(safe_orders(HOUSE, ((0, deeds),), 0)), many)
        # The number of orders is asked ahead of that of the states.
        refused = refusal(safe_orders, HOUSE, ((0, locks[:5]),) + works(16, 16, 16), 0)
        self.assertEqual(refused.most, 24)
        refused = refusal(safe_orders, HOUSE, ((0, locks[:3]),) + works(16, 16, 16), 0)
        self.assertEqual(refused.most, 20000)
        # Others' deeds are not put in other orders.
        self.assertEqual(safe_orders(HOUSE, ((0, ("work",)), (0, locks[:5])), 0), [("work",)])

    def test_too_many_states_by_some_order(self):
        # Whoever holds the lock keeps others from going on, but they can wait for it, too.
        late, early = (0, ("work", "work", (0, 1))), (0, ((0, 1), "work", "work"))
        rest = (0, ("work", (0, 1)))
        for beside, many in (
            (((0, ("work", (0, 1)) + ("work",) * 11),) + works(3, 4), {early: 14896, late: None}),
            ((rest, rest) + works(24), {early: None, late: 13400}),
        ):
            for one in (early, late):
                if many[one] is None:
                    self.assertEqual(refusal(states_many, HOUSE, (one,) + beside).most, 20000)
                else:
                    self.assertEqual(states_many(HOUSE, (one,) + beside), many[one])
                refused = refusal(safe_orders, HOUSE, (one,) + beside, 0)
                self.assertEqual((refused.__class__, refused.most), (TooMany, 20000))

class TestLeastCompany(unittest.TestCase):
    def wanted(self, house, programs, person):
        others = [one for one in range(len(programs)) if one != person]
        enough = []
        for many in range(len(others) + 1):
            for lot in itertools.combinations(others, many):
                persons = sorted(lot + (person,))
                if persons.index(person) in model_held(house, tuple(programs[one] for one in persons)):
                    enough.append(lot)
        return sorted(lot for lot in enough if not any(set(other) < set(lot) for other in enough))

    def test_against_all_lots(self):
        seen = {}
        for house, programs in CASES:
            for person in range(len(programs)):
                wanted = self.wanted(house, programs, person)
                self.assertEqual(least_company(house, programs, person), wanted)
                self.assertIs(wanted == [], person not in model_held(house, programs))
                for lot in wanted:
                    seen[len(lot), len(wanted) > 1] = seen.get((len(lot), len(wanted) > 1), 0) + 1
                least_company(house, programs, person).clear()
        self.assertLessEqual({(1, False), (1, True), (2, False)}, set(seen), seen)

    def test_alike_programs(self):
        self.assertEqual(least_company(HOUSE, (ONE, OTHER, OTHER), 0), [(1,), (2,)])
        self.assertEqual(least_company(HOUSE, (ONE, OTHER, OTHER), 1), [(0,)])
        self.assertEqual(least_company(HOUSE, (ONE, ONE, ONE), 1), [])
        three = tuple((0, ((0, at), (0, (at + 1) % 3))) for at in range(3))
        self.assertEqual(least_company(HOUSE, three, 1), [(0, 2)])
        self.assertEqual(least_company(HOUSE, three + three[:1], 1), [(0, 2), (2, 3)])
        # One that waits for two others who stand.
        behind = (0, ((0, 1),))
        self.assertEqual(least_company(HOUSE, (behind, ONE, OTHER, ONE), 0), [(1, 2), (2, 3)])

    def test_too_many(self):
        for programs in (works(*[1] * 7), works(*[1] * 12), (ONE, OTHER) + works(1, 1, 1, 1, 1), works(16, 16, 16, 16, 16, 16, 16)):
            for person in (0, 6):
                refused = refusal(least_company, HOUSE, programs, person)
                self.assertEqual((refused.__class__, refused.most), (TooMany, 6))
        self.assertEqual(least_company(HOUSE, works(1, 1, 1, 1, 1), 3), [])
        self.assertEqual(least_company(HOUSE, (ONE, OTHER) + works(1, 1), 0), [(1,)])
        self.assertEqual(refusal(least_company, HOUSE, works(16, 16, 16), 0).most, 20000)
        self.assertEqual(refusal(least_company, HOUSE, works(*[3] * 6), 0).most, 20000)
        # The states of all of them count, though two are company enough.
        self.assertEqual(refusal(least_company, HOUSE, (ONE, OTHER) + works(16, 16), 0).most, 20000)


class TestTooMany(unittest.TestCase):
    def test_each_function(self):
        story = told_story(HOUSE, (ONE, OTHER), 0)
        for programs, refused in ((works(19998), False), (works(19999), True), (works(16, 16, 16), True)):
            for call, told in (
                (told_story, (0,)), (is_told_story, (0, story)), (is_told_story, (0, None)), (held_persons, ()),
                (is_safe, ()), (safe_orders, (0,)), (least_company, (0,)),
            ):
                error = refusal(call, HOUSE, programs, *told)
                self.assertEqual((error.__class__, error.most) if error else None, (TooMany, 20000) if refused else None)


if __name__ == "__main__":
    unittest.main()
