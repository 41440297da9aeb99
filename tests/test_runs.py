"""[6], [23] and [24]: runs and rounds."""

import random
import unittest

from comesthrough.errors import BadStep
from comesthrough.forms import is_index, is_program
from comesthrough.hall import Hall
from comesthrough.runs import (
    hall_of, held_off, is_fair, is_round, is_run, is_stuck, joined_runs, led, renumbered, unfair_to, words_of,
)
from tests.model import Model, drawn_rounds, drawn_run, model_unfair, model_words
from tests.samples import changed_leaves, changed_tuples, drawn_house, drawn_program, junk, nested, nested_list, refusal

WAITS = ((("k", True, 0),), ("s",), (((("wait", "wait"),),),))
YIELDS = ((("k", True, 0),), ("s",), (((("yield", "yield"),),),))
RENEWS = ((("k", False, 0),), ("s",), (((("yield", "yield"),),),))
FORTH, BACK = (0, ((0, 1), (0, 2))), (0, ((0, 2), (0, 1)))
ROUNDS = drawn_rounds(30, 250)


def model_is_run(house, thing):
    """What [6] says of a tuple of two tuples."""
    programs, row = thing
    if not all(is_program(house, program) for program in programs):
        return False
    if not all(is_index(len(programs), person) for person in row):
        return False
    return isinstance(model_words(house, thing), list)


def model_behind(house, programs, row):
    model = Model(house, programs)
    for person in row:
        model.step(person)
    return model


def spoilt_parts(part):
    return [list(part), (part,), None, {}, "", 0, part + (None,), part + ((),)]


def spoilt_leaves(leaf):
    things = [None, [], {}, (leaf,), -1, "x", nested(20, 0), nested_list(20)]
    return things + [bool(leaf)] if isinstance(leaf, int) else things


class TestRuns(unittest.TestCase):
    def setUp(self):
        self.draw = random.Random(31)

    def drawn(self, many, **told):
        for _ in range(many):
            house = drawn_house(self.draw, **told)
            yield house, drawn_run(self.draw, house)

    def test_runs(self):
        for house, run in self.drawn(150):
            self.assertIs(is_run(house, run), True)
            for at in range(len(run[1])):
                self.assertIs(is_run(house, (run[0], run[1][:at])), True)

    def test_small_runs(self):
        self.assertIs(is_run(WAITS, ((), ())), True)
        self.assertIs(is_run(WAITS, ((FORTH,), ())), True)
        self.assertIs(is_run(WAITS, ((FORTH,), (0, 0, 0))), True)
        self.assertIs(is_run(WAITS, ((FORTH,), (0, 0, 0, 0))), False)
        self.assertIs(is_run(WAITS, ((), (0,))), False)
        self.assertIs(is_run(WAITS, ((FORTH, BACK), (0, 1, 0, 1, 0, 1))), True)
        for person in (0, 1, 2, -1, True, False, None, "0"):
            self.assertIs(is_run(WAITS, ((FORTH, BACK), (0, 1, 0, 1, 0, 1, person))), False)

    def test_a_step_more_less_or_exchanged(self):
        seen = set()
        for house, (programs, row) in self.drawn(80):
            rows = [row + (person,) for person in range(-1, len(programs) + 1)]
            for at in range(len(row)):
                rows.append(row[:at] + row[at + 1:])
                rows.append(row[:at] + (row[at],) + row[at:])
                rows.extend(row[:at] + (person,) + row[at + 1:] for person in range(-1, len(programs) + 1))
            for other in rows:
                self.assertIs(is_run(house, (programs, other)), model_is_run(house, (programs, other)))
                seen.add(is_run(house, (programs, other)))
        self.assertEqual(seen, {True, False})

    def test_programs_exchanged(self):
        for house, (programs, row) in self.drawn(80):
            for at in range(len(programs)):
                for other in (drawn_program(self.draw, house), (len(house[0]), ("work",)), (0, ())):
                    thing = (programs[:at] + (other,) + programs[at + 1:], row)
                    self.assertIs(is_run(house, thing), model_is_run(house, thing))
                self.assertIs(is_run(house, (programs[:at], row)), model_is_run(house, (programs[:at], row)))

    def test_parts_of_another_kind(self):
        run = ((FORTH, (0, ("work", (0, 3)))), (0, 0, 1, 1, 0))
        self.assertIs(is_run(WAITS, run), True)
        for thing in changed_leaves(run, spoilt_leaves):
            self.assertIs(is_run(WAITS, thing), False, thing)
        for thing in changed_tuples(run, spoilt_parts):
            self.assertIs(is_run(WAITS, thing), False, thing)

    def test_any_value(self):
        halls = [Hall(WAITS), led(WAITS, ((FORTH,), (0,)))]
        for thing in junk() + halls + [((), (), ()), ((),), [(), ()], ([], ()), ((), []), (None, None), ((FORTH,), [0])]:
            self.assertIs(is_run(WAITS, thing), False)
            self.assertIs(is_round(WAITS, thing), False)

    def test_of_another_house(self):
        program = (1, ((1, 0),))
        self.assertIs(is_run(WAITS, ((program,), (0,))), False)

    def test_hall_of(self):
        for house, (programs, _) in self.drawn(40):
            hall, wanted = hall_of(house, programs), Hall(house)
            for program in programs:
                wanted.enter(program)
            self.assertTrue(hall == wanted)
            self.assertEqual(hall.deeds_done(), [("enter", program) for program in programs])

    def test_led_and_words(self):
        for house, (programs, row) in self.drawn(120):
            hall = led(house, (programs, row))
            self.assertEqual(hall.state(), model_behind(house, programs, row).state())
            self.assertEqual(hall.deeds_done()[len(programs):], [("step", person) for person in row])
            self.assertEqual(words_of(house, (programs, row)), model_words(house, (programs, row)))

    def test_bad_steps(self):
        seen = set()
        for house, (programs, row) in self.drawn(120):
            for _ in range(6):
                at = self.draw.randint(0, len(row))
                other = row[:at] + (self.draw.randrange(len(programs)),) + row[at:]
                wanted = model_words(house, (programs, other))
                for call in (led, words_of):
                    refused = refusal(call, house, (programs, other))
                    if isinstance(wanted, list):
                        self.assertIsNone(refused)
                    else:
                        self.assertEqual((refused.__class__, refused.index), (BadStep, wanted))
                seen.add(isinstance(wanted, list))
        self.assertEqual(seen, {True, False})

    def test_is_stuck(self):
        seen = []
        for house, (programs, row) in [*self.drawn(60), *self.drawn(60, words=("wait",))]:
            for at in range(0, len(row) + 1):
                model = model_behind(house, programs, row[:at])
                able = any(model.can_step(person) for person in range(len(programs)))
                left = any(one.status != "ended" for one in model.people)
                self.assertIs(is_stuck(house, (programs, row[:at])), left and not able)
                seen.append((left, able))
        self.assertEqual(set(seen), {(True, True), (True, False), (False, False)})
        self.assertIs(is_stuck(WAITS, ((), ())), False)

    def test_three_thousand_steps(self):
        row = (0, 0, 1, 1) + (1, 1, 1) * 998 + (0, 0)
        programs = ((0, ((0, 1), "work", (0, 9))), (0, ((0, 2), (0, 1))))
        self.assertEqual(len(row), 3000)
        self.assertIs(is_run(YIELDS, (programs, row)), True)
        self.assertEqual(words_of(YIELDS, (programs, row))[-5:], ["yield", "begin", "take", "work", "take"])
        lap = (programs, (0, 0, 1, 1), (1, 1, 1) * 998)
        self.assertIs(is_round(YIELDS, lap), True)
        self.assertEqual(unfair_to(YIELDS, lap), [0])
        hall = led(YIELDS, (programs, row))
        for _ in range(3002):
            hall.undo()
        self.assertEqual(hall.persons_many(), 0)

    def test_3000_steps_of_forty(self):
        programs = tuple((0, tuple((0, number) for number in range(person, person + 16))) for person in range(40))
        model = Model(RENEWS, programs)
        row = []
        while len(row) < 3000:
            person = self.draw.randrange(40)
            if model.can_step(person):
                row.append(person)
                model.step(person)
            if not any(model.can_step(person) for person in range(40)):
                break
        self.assertIs(is_run(RENEWS, (programs, tuple(row))), True)
        self.assertEqual(led(RENEWS, (programs, tuple(row))).state(), model.state())


class TestRounds(unittest.TestCase):
    def test_rounds(self):
        for house, lap in ROUNDS:
            self.assertIs(is_round(house, lap), True)
            programs, row, again = lap
            self.assertIs(is_round(house, (programs, row, again + again)), True)
            self.assertIs(is_round(house, (programs, row + again, again)), True)
            self.assertIs(is_round(house, (programs, row, ())), False)

    def test_steps_changed(self):
        seen = set()
        for house, (programs, row, again) in ROUNDS[:80]:
            for at in range(len(again)):
                changed = [again[:at] + again[at + 1:], again[:at] + (again[at],) + again[at:]]
                changed += [again[:at] + (person,) + again[at + 1:] for person in range(-1, len(programs) + 1)]
                for other in changed:
                    wanted = len(other) > 0 and model_is_run(house, (programs, row + other))
                    if wanted:
                        before, behind = (model_behind(house, programs, one) for one in (row, row + other))
                        wanted = before.state() == behind.state()
                    self.assertIs(is_round(house, (programs, row, other)), wanted)
                    seen.add(wanted)
        self.assertEqual(seen, {True, False})

    def test_parts_of_another_kind(self):
        lap = ((FORTH, BACK), (0, 0, 1, 1), (0, 0, 0, 1, 1, 1))
        self.assertIs(is_round(YIELDS, lap), True)
        for thing in changed_leaves(lap, spoilt_leaves):
            self.assertIs(is_round(YIELDS, thing), False, thing)
        for thing in changed_tuples(lap, spoilt_parts):
            self.assertIs(is_round(YIELDS, thing), False, thing)
        self.assertIs(is_round(YIELDS, lap[:2]), False)
        self.assertIs(is_run(YIELDS, lap), False)

    def test_not_without_the_order_by_age(self):
        programs = ((0, ((0, 1), "work")), (0, ((0, 2), (0, 1))))
        row, again = (1, 0, 0, 1), (1, 1, 1)
        self.assertIs(is_round(YIELDS, (programs, row, again)), True)
        self.assertIs(is_round(RENEWS, (programs, row, again)), False)
        before, behind = (led(RENEWS, (programs, one)).state() for one in (row, row + again))
        self.assertEqual((before[0], before[1], behind[1]), (behind[0], (1, 0), (0, 1)))
        self.assertIs(is_round(RENEWS, (programs, row + again, again)), True)

    def test_not_without_the_kind(self):
        rises = ((("k", True, 1), ("l", True, 1)), ("s",), (((("yield", "yield"),) * 2,) * 2,))
        programs = ((0, ((0, 1), "work")), (0, ((0, 2), (0, 1))))
        row, again = (1, 0, 0, 1), (1, 1, 1)
        self.assertIs(is_run(rises, (programs, row + again)), True)
        self.assertIs(is_round(rises, (programs, row, again)), False)
        self.assertIs(is_round(rises, (programs, row + again, again)), True)

    def test_not_without_whom_somebody_waits_for(self):
        judge = (((("wait", "wait"), ("wait", "wait")), (("yield", "yield"), ("yield", "yield"))),)
        house = ((("w", True, 0), ("y", True, 1)), ("s",), judge)
        # Person 0 waits for person 1 until that one yields to person 2, and again when it asks anew.
        programs = ((0, ((0, 1), "work")), (1, ((0, 1), (0, 5), "work")), (0, ((0, 5), (0, 6), "work")), (0, ((0, 1), "work")))
        row = (0, 3, 1, 1, 2, 2, 0)
        self.assertEqual(led(house, (programs, row)).waits_for(0), 1)
        self.assertIs(is_round(house, (programs, row, (1, 1, 1))), False)
        self.assertIs(is_round(house, (programs, row, (1, 1, 1, 0))), True)
        freed, bound = row + (1, 1, 1), row + (1, 1, 1, 0)
        self.assertEqual([led(house, (programs, one)).waits_for(0) for one in (freed, bound)], [None, 1])
        self.assertIs(is_round(house, (programs, freed, (0,))), False)
        self.assertIs(is_round(house, (programs, freed, (0, 1, 1, 1))), True)

    def test_unfair_to(self):
        seen = set()
        for house, lap in ROUNDS:
            wanted = model_unfair(house, lap)
            self.assertEqual(unfair_to(house, lap), wanted)
            self.assertIs(is_fair(house, lap), not wanted)
            seen.add(bool(wanted))
        self.assertEqual(seen, {True, False})

    def test_who_can_step_and_does_not(self):
        programs = ((0, ((0, 1), "work", (0, 2))), (0, ((0, 2), "work", (0, 1))), (0, ("work",)))
        row, again = (0, 1, 0, 1), (1, 1, 1, 1, 0, 0, 0, 0)
        self.assertIs(is_fair(YIELDS, (programs[:2], row, again)), True)
        self.assertEqual(unfair_to(YIELDS, (programs, row, again)), [2])
        self.assertEqual(unfair_to(YIELDS, (programs, row + (2,), again)), [2])
        self.assertEqual(unfair_to(YIELDS, (programs, row + (2, 2), again)), [])

    def test_who_waits_all_the_time_need_not_step(self):
        judge = (((("wait", "wait"), ("wait", "wait")), (("yield", "yield"), ("yield", "yield"))),)
        house = ((("w", True, 0), ("y", True, 1)), ("s",), judge)
        programs = ((0, ((0, 1), (0, 9))), (0, ((0, 9), (0, 1))), (1, ((0, 1), "work")), (0, ((0, 9), "work")))
        row = (0, 1, 3, 0, 1, 0, 1, 3, 2, 2)
        lap = (programs, row, (2, 2))
        self.assertEqual(led(house, (programs, row)).steppers(), [2])
        self.assertIs(is_round(house, lap), True)
        self.assertEqual((unfair_to(house, lap), held_off(house, lap)), ([], [0, 1, 2, 3]))

    def test_who_is_at_a_free_lock_and_never_takes_it(self):
        # Each is at the lock of the other one while that one is out, but asks for it only while it is held.
        programs = ((0, ((0, 1), (0, 2), "work")), (0, ((0, 2), (0, 1))))
        row, again = (0, 0, 1, 1), (0, 0, 0, 1, 1, 1)
        lap = (programs, row, again)
        self.assertIs(is_round(YIELDS, lap), True)
        self.assertEqual(words_of(YIELDS, (programs, row + again))[4:], ["yield", "begin", "take", "yield", "begin", "take"])
        self.assertEqual(unfair_to(YIELDS, lap), [0, 1])

    def test_taking_it_at_another_time_is_enough(self):
        programs = ((0, ((0, 1), "work", (0, 2))), (0, ((0, 2), "work", (0, 1))))
        lap = (programs, (0, 1, 0, 1), (1, 1, 1, 1, 0, 0, 0, 0))
        self.assertIs(is_round(YIELDS, lap), True)
        self.assertEqual(unfair_to(YIELDS, lap), [])

    def test_taking_another_lock_is_not_enough(self):
        # Person 0 takes lock 1 in the lap, and is at lock 2 when it is free, but person 1 takes that first each time.
        programs = ((0, ((0, 1), (0, 2), "work")), (0, ((0, 2), "work", (0, 1))))
        row, again = (0, 1, 0, 1), (1, 1, 1, 1, 0, 0, 0)
        lap = (programs, row, again)
        self.assertIs(is_round(YIELDS, lap), True)
        self.assertEqual(words_of(YIELDS, (programs, row + again))[4:], "work yield begin take yield begin take".split())
        self.assertEqual(unfair_to(YIELDS, lap), [0])

    def test_held_off(self):
        for house, lap in ROUNDS:
            programs, row, _ = lap
            model = model_behind(house, programs, row)
            wanted = [person for person, one in enumerate(model.people) if one.status != "ended"]
            self.assertEqual(held_off(house, lap), wanted)
            held_off(house, lap).append(9)
            unfair_to(house, lap).append(9)
            self.assertEqual((held_off(house, lap), unfair_to(house, lap)), (wanted, model_unfair(house, lap)))

    def test_ended_ones_are_not_held_off(self):
        programs = ((0, ("work",)), FORTH, BACK)
        row, again = (0, 0, 1, 1, 2, 2), (1, 1, 1, 2, 2, 2)
        self.assertEqual(held_off(YIELDS, (programs, row, again)), [1, 2])


class TestOtherNumbers(unittest.TestCase):
    def test_renumbered(self):
        draw = random.Random(32)
        for _ in range(120):
            house = drawn_house(draw)
            run = drawn_run(draw, house)
            many = len(run[0])
            order = tuple(draw.sample(range(many), many))
            other = renumbered(run, order)
            self.assertIs(is_run(house, other), True)
            self.assertEqual(other[0], tuple(run[0][old] for old in order))
            self.assertEqual(words_of(house, other), words_of(house, run))
            self.assertEqual([order[person] for person in other[1]], list(run[1]))
            one, two = led(house, run), led(house, other)
            self.assertEqual([order[person] for person in two.ages()], one.ages())
            for new, old in enumerate(order):
                self.assertEqual(two.state()[0][new][:2], one.state()[0][old][:2])
            back = tuple(order.index(person) for person in range(many))
            self.assertEqual(renumbered(other, back), run)
        self.assertEqual(renumbered(((FORTH, BACK), (0, 0, 1)), (1, 0)), ((BACK, FORTH), (1, 1, 0)))

    def test_joined(self):
        draw = random.Random(33)
        for _ in range(80):
            house = drawn_house(draw)
            one, other = drawn_run(draw, house), drawn_run(draw, house)
            far = [(kind, tuple(deed if deed == "work" else (deed[0], deed[1] + 50) for deed in deeds)) for kind, deeds in other[0]]
            other = (tuple(far), other[1])
            joined = joined_runs(one, other)
            self.assertIs(is_run(house, joined), True)
            self.assertEqual(joined[0], one[0] + other[0])
            self.assertEqual(joined[1], one[1] + tuple(person + len(one[0]) for person in other[1]))
            self.assertEqual(words_of(house, joined), words_of(house, one) + words_of(house, other))
            self.assertEqual(joined_runs(((), ()), one), one)
            self.assertEqual(joined_runs(one, ((), ())), one)


if __name__ == "__main__":
    unittest.main()
