"""[5], [21] and [22]: the hall."""

import random
import unittest

from comesthrough.errors import CannotStep, NoPerson, Nothing, Wrong
from comesthrough.hall import Hall
from tests.model import Model, drawn_run
from tests.samples import (
    changed_leaves, changed_tuples, drawn_house, drawn_houses, drawn_program, junk, refusal, spoilt_leaf, spoilt_tuples,
)

ASKS_PERSON = "step kind_of place_of locks_of waits_for can_step is_ended can_take".split()


def house_with(elder, younger, kinds=(("k", True, 0),)):
    """A house of one sort that says the same to askers and holders of all kinds."""
    many = len(kinds)
    return (kinds, ("s",), ((((elder, younger),) * many,) * many,))


def taking(kind, *numbers):
    return (kind, tuple("work" if number == "work" else (0, number) for number in numbers))


def hall_with(house, *programs):
    hall = Hall(house)
    for program in programs:
        hall.enter(program)
    return hall


def led_by(hall, row):
    return [hall.step(person) for person in row]


def all_told(hall):
    """All that a hall tells, but what was done in it."""
    persons = range(hall.persons_many())
    locks = [(sort, number) for sort in range(3) for number in range(4)]
    told = [[getattr(hall, name)(person) for person in persons] for name in ASKS_PERSON[1:]]
    return (told, hall.steppers(), hall.takers(), hall.ages(), [hall.holder_of(lock) for lock in locks], hall.state())


def whole(hall):
    return (all_told(hall), hall.deeds_done())


class TestWords(unittest.TestCase):
    """Person 0 is elder than person 1; both ask for what the other one holds."""

    def couple(self, elder, younger, kinds=(("k", True, 0), ("l", True, 1))):
        hall = hall_with(house_with(elder, younger, kinds), taking(0, 1, 2), taking(1, 2, 1))
        self.assertEqual(led_by(hall, (0, 1, 0, 1)), ["begin", "begin", "take", "take"])
        return hall

    def test_wait_by_the_elder(self):
        hall = self.couple("wait", "oust")
        self.assertEqual(hall.step(0), "wait")
        self.assertEqual(hall.state(), (((0, 1, 1), (1, 1, None)), (0, 1)))
        self.assertEqual((hall.steppers(), hall.takers(), hall.waits_for(0), hall.waits_for(1)), ([1], [], 1, None))
        self.assertEqual(refusal(hall.step, 0).person, 0)

    def test_wait_by_the_younger(self):
        hall = self.couple("oust", "wait")
        self.assertEqual(hall.step(1), "wait")
        self.assertEqual(hall.state(), (((0, 1, None), (1, 1, 0)), (0, 1)))
        self.assertEqual(hall.locks_of(1), [(0, 2)])

    def test_both_wait(self):
        hall = self.couple("wait", "wait")
        self.assertEqual(led_by(hall, (1, 0)), ["wait", "wait"])
        self.assertEqual((hall.steppers(), hall.takers()), ([], []))
        self.assertEqual(hall.state(), (((0, 1, 1), (1, 1, 0)), (0, 1)))

    def test_yield_by_the_elder(self):
        for keeps, rise, ages in ((True, 0, [0, 1]), (True, 1, [0, 1]), (False, 0, [1]), (False, 1, [1])):
            for other in (True, False):
                hall = self.couple("yield", "wait", (("k", keeps, rise), ("l", other, 1)))
                self.assertEqual(hall.step(0), "yield")
                self.assertEqual((hall.kind_of(0), hall.place_of(0), hall.ages()), (rise, -1, ages))
                self.assertEqual((hall.locks_of(0), hall.holder_of((0, 1)), hall.holder_of((0, 2))), ([], None, 1))
                self.assertEqual((hall.steppers(), hall.takers()), ([0, 1], [1]))

    def test_yield_by_the_younger(self):
        for keeps, ages in ((True, [0, 1]), (False, [0])):
            hall = self.couple("wait", "yield", (("k", not keeps, 0), ("l", keeps, 1)))
            self.assertEqual(hall.step(1), "yield")
            self.assertEqual((hall.kind_of(1), hall.place_of(1), hall.ages()), (1, -1, ages))
            self.assertEqual(hall.holder_of((0, 2)), None)

    def test_oust_by_the_elder(self):
        for keeps, ages in ((True, [0, 1]), (False, [0])):
            hall = self.couple("oust", "wait", (("k", not keeps, 1), ("l", keeps, 1)))
            self.assertEqual(hall.step(0), "oust")
            self.assertEqual(hall.state(), (((0, 1, None), (1, -1, None)), tuple(ages)))
            self.assertEqual((hall.locks_of(0), hall.locks_of(1), hall.holder_of((0, 2))), ([(0, 1)], [], None))
            self.assertEqual(hall.takers(), [0])
            self.assertEqual(led_by(hall, (0, 1)), ["take", "begin"])
            self.assertEqual(hall.state(), (((0, 2, None), (1, 0, None)), (1,)))

    def test_oust_by_the_younger(self):
        for keeps, rise, ages in ((True, 0, [0, 1]), (True, 1, [0, 1]), (False, 0, [1]), (False, 1, [1])):
            hall = self.couple("wait", "oust", (("k", keeps, rise), ("l", not keeps, 1)))
            self.assertEqual(hall.step(1), "oust")
            self.assertEqual(hall.state(), (((rise, -1, None), (1, 1, None)), tuple(ages)))

    def test_the_words_of_the_two_kinds_and_the_sort(self):
        for seed in range(60):
            draw = random.Random(seed)
            house = drawn_house(draw, kinds=3, sorts=3, rising=False)
            sort, asker, holder = draw.randrange(3), draw.randrange(3), draw.randrange(3)
            hall = hall_with(house, (asker, ((sort, 5),)), (holder, ((sort, 5), "work")))
            elder = draw.random() < 0.5
            led_by(hall, (0, 1, 1) if elder else (1, 0, 1))
            self.assertEqual(hall.step(0), house[2][sort][asker][holder][0 if elder else 1])

    def test_the_word_by_the_kind_that_it_is_now(self):
        judge = ((("yield", "yield"), ("yield", "yield")), (("oust", "oust"), ("wait", "wait")))
        house = ((("a", True, 1), ("b", True, 1)), ("s",), (judge,))
        hall = hall_with(house, taking(0, 1), taking(0, 1, "work"))
        self.assertEqual(led_by(hall, (1, 1, 0, 0, 0, 0)), ["begin", "take", "begin", "yield", "begin", "oust"])
        self.assertEqual([hall.kind_of(0), hall.kind_of(1)], [1, 1])
        self.assertEqual(led_by(hall, (1, 1, 0, 1, 0)), ["begin", "take", "wait", "work", "take"])


class TestAges(unittest.TestCase):
    def test_the_order_is_that_of_the_first_begin(self):
        hall = hall_with(house_with("wait", "wait"), *[taking(0, number, "work") for number in range(4)])
        led_by(hall, (2, 0, 3, 3))
        self.assertEqual(hall.ages(), [2, 0, 3])
        led_by(hall, (1, 2, 2))
        self.assertEqual(hall.ages(), [0, 3, 1])

    def test_who_is_put_out_and_keeps_stays(self):
        hall = hall_with(house_with("yield", "yield"), taking(0, 1, "work"), taking(0, 1, 2), taking(0, 3))
        led_by(hall, (1, 0, 0, 2, 1))
        self.assertEqual((hall.ages(), hall.place_of(1)), ([1, 0, 2], -1))
        led_by(hall, (1,))
        self.assertEqual(hall.ages(), [1, 0, 2])

    def test_who_is_put_out_and_renews_comes_in_behind(self):
        house = house_with("yield", "yield", (("k", False, 0),))
        hall = hall_with(house, taking(0, 1, "work"), taking(0, 1, 2), taking(0, 3))
        led_by(hall, (1, 0, 0, 2, 1))
        self.assertEqual(hall.ages(), [0, 2])
        led_by(hall, (1,))
        self.assertEqual(hall.ages(), [0, 2, 1])

    def test_kept_by_one_kind_forgotten_by_the_next(self):
        house = house_with("yield", "yield", (("k", True, 1), ("l", False, 1)))
        hall = hall_with(house, taking(0, 1), taking(0, 1, "work"))
        led_by(hall, (0, 1, 1, 0))
        self.assertEqual((hall.ages(), hall.kind_of(0)), ([0, 1], 1))
        led_by(hall, (0, 0))
        self.assertEqual((hall.ages(), hall.kind_of(0)), ([1], 1))
        led_by(hall, (0,))
        self.assertEqual(hall.ages(), [1, 0])


class TestWaiting(unittest.TestCase):
    def test_freed_as_the_other_one_is_put_out(self):
        judge = ((("wait", "wait"), ("wait", "wait")), (("yield", "yield"), ("oust", "oust")))
        house = ((("w", True, 0), ("y", True, 1)), ("s",), (judge,))
        hall = hall_with(house, taking(0, 1, "work"), taking(1, 1, 2), taking(0, 2, "work"), taking(0, 1, 3))
        led_by(hall, (1, 1, 2, 2, 0, 3))
        self.assertEqual(led_by(hall, (0, 3)), ["wait", "wait"])
        self.assertEqual((hall.waits_for(0), hall.waits_for(3), hall.steppers()), (1, 1, [1, 2]))
        self.assertEqual(hall.step(1), "yield")
        self.assertEqual((hall.waits_for(0), hall.waits_for(3), hall.steppers()), (None, None, [0, 1, 2, 3]))
        self.assertEqual(hall.takers(), [0, 3])
        self.assertEqual(led_by(hall, (3, 0)), ["take", "wait"])
        self.assertEqual(hall.waits_for(0), 3)
        self.assertEqual(led_by(hall, (3, 0)), ["take", "take"])

    def test_freed_as_the_other_one_ends(self):
        hall = hall_with(house_with("wait", "wait"), taking(0, 1, "work"), taking(0, 1), taking(0, 1, "work"))
        led_by(hall, (0, 0, 1, 2, 1, 2))
        self.assertEqual((hall.waits_for(1), hall.waits_for(2)), (0, 0))
        self.assertEqual(hall.step(0), "work")
        self.assertEqual((hall.is_ended(0), hall.steppers(), hall.locks_of(0), hall.ages()), (True, [1, 2], [], [1, 2]))
        self.assertEqual(led_by(hall, (2, 1)), ["take", "wait"])
        self.assertEqual(hall.waits_for(1), 2)

    def test_who_waits_is_put_out_itself(self):
        judge = ((("wait", "wait"), ("wait", "wait")), (("oust", "oust"), ("oust", "oust")))
        house = ((("w", True, 0), ("o", True, 1)), ("s",), (judge,))
        hall = hall_with(house, taking(0, 1, 2), taking(0, 2, "work"), taking(1, 1))
        led_by(hall, (0, 0, 1, 1, 0, 2))
        self.assertEqual(hall.waits_for(0), 1)
        self.assertEqual(hall.step(2), "oust")
        self.assertEqual((hall.waits_for(0), hall.place_of(0), hall.can_step(0)), (None, -1, True))

    def test_it_waits_on_while_other_things_happen(self):
        hall = hall_with(house_with("wait", "wait"), taking(0, 1, 2, 3, "work"), taking(0, 1))
        led_by(hall, (0, 0, 1, 1, 0, 0))
        self.assertEqual((hall.waits_for(1), hall.can_step(1)), (0, False))


class TestPlayed(unittest.TestCase):
    def compare(self, hall, model):
        persons = range(len(model.people))
        self.assertEqual(hall.persons_many(), len(model.people))
        self.assertEqual(hall.state(), model.state())
        self.assertEqual(hall.ages(), model.order)
        self.assertEqual(hall.steppers(), [person for person in persons if model.can_step(person)])
        self.assertEqual(hall.takers(), [person for person in persons if model.can_take(person)])
        for person in persons:
            one = model.people[person]
            self.assertEqual(hall.kind_of(person), one.kind)
            self.assertEqual(hall.place_of(person), model.place(person))
            self.assertEqual(hall.waits_for(person), one.waits)
            self.assertEqual(hall.locks_of(person), sorted(model.holds(person)))
            self.assertIs(hall.can_step(person), model.can_step(person))
            self.assertIs(hall.can_take(person), model.can_take(person))
            self.assertIs(hall.is_ended(person), one.status == "ended")
        for sort in range(len(model.sorts)):
            for number in range(3):
                self.assertEqual(hall.holder_of((sort, number)), model.holder((sort, number)))

    def test_drawn_runs(self):
        draw = random.Random(21)
        seen = set()
        for _ in range(250):
            house = drawn_house(draw)
            programs, row = drawn_run(draw, house, steps=60)
            hall, model = hall_with(house, *programs), Model(house, programs)
            self.compare(hall, model)
            for person in row:
                word = hall.step(person)
                self.assertEqual(word, model.step(person))
                seen.add(word)
                self.compare(hall, model)
        self.assertEqual(seen, {"begin", "work", "take", "wait", "yield", "oust"})

    def test_who_enters_later(self):
        draw = random.Random(22)
        for _ in range(60):
            house = drawn_house(draw)
            hall, model, wanted = Hall(house), Model(house), []
            for _ in range(50):
                able = [person for person in range(len(model.people)) if model.can_step(person)]
                if not able or draw.random() < 0.1:
                    program = drawn_program(draw, house, 2)
                    self.assertEqual(hall.enter(program), len(model.people))
                    model.people.extend(Model(house, [program]).people)
                    wanted.append(("enter", program))
                else:
                    wanted.append(("step", draw.choice(able)))
                    self.assertEqual(hall.step(wanted[-1][1]), model.step(wanted[-1][1]))
                self.compare(hall, model)
            self.assertEqual(hall.deeds_done(), wanted)

    def test_forty_persons(self):
        draw = random.Random(23)
        for words in (("wait",), ("yield", "wait"), ("oust", "yield")):
            house = drawn_house(draw, kinds=3, sorts=2, words=words)
            programs, row = drawn_run(draw, house, persons=40, steps=400, locks=8, deeds=16)
            hall, model = hall_with(house, *programs), Model(house, programs)
            for person in row:
                self.assertEqual(hall.step(person), model.step(person))
            self.compare(hall, model)
            while hall.deeds_done()[-1][0] == "step":
                hall.undo()
            self.assertEqual(hall.state(), Model(house, programs).state())

    def test_locks_are_ascending(self):
        house = ((("k", True, 0),), ("s", "t"), (((("wait", "wait"),),),) * 2)
        hall = hall_with(house, (0, ((1, 0), (0, 10 ** 39), "work", (0, 2), (1, 5), "work")))
        led_by(hall, (0,) * 6)
        self.assertEqual(hall.locks_of(0), [(0, 2), (0, 10 ** 39), (1, 0), (1, 5)])
        self.assertEqual((hall.place_of(0), hall.holder_of((0, 10 ** 39)), hall.holder_of((0, 0))), (5, 0, None))


class TestRefusals(unittest.TestCase):
    def setUp(self):
        self.house = house_with("wait", "yield")
        self.hall = hall_with(self.house, taking(0, 0, 1), taking(0, 1, 0), taking(0, 5))
        led_by(self.hall, (0, 0, 1, 1, 2, 2, 0))

    def test_no_person(self):
        before = whole(self.hall)
        for thing in junk() + [3, -1, 10 ** 39, "0", (0,), [0], {0: 0}, True, False, None]:
            if thing in (0, 1, 2) and not isinstance(thing, bool):
                continue
            for name in ASKS_PERSON:
                refused = refusal(getattr(self.hall, name), thing)
                self.assertIs(refused.__class__, NoPerson, (name, thing))
                self.assertIs(refused.person, thing)
        self.assertEqual(whole(self.hall), before)

    def test_nobody_has_entered(self):
        for name in ASKS_PERSON:
            self.assertEqual(refusal(getattr(Hall(self.house), name), 0).person, 0)

    def test_cannot_step(self):
        before = whole(self.hall)
        self.assertEqual((self.hall.waits_for(0), self.hall.is_ended(2)), (1, True))
        for person in (0, 2):
            refused = refusal(self.hall.step, person)
            self.assertEqual((refused.__class__, refused.person), (CannotStep, person))
        self.assertEqual(whole(self.hall), before)
        self.assertEqual(led_by(self.hall, (1, 0)), ["yield", "take"])

    def test_enter(self):
        before = whole(self.hall)
        program = (0, ((0, 1), "work"))
        things = [*changed_leaves(program, spoilt_leaf), *changed_tuples(program, lambda part: [list(part), part + (0,), ()])]
        for thing in [one for one in junk() if one not in ((0, ("work",)), (0, ((0, 0),)))] + things:
            refused = refusal(self.hall.enter, thing)
            self.assertEqual((refused.__class__, refused.place), (Wrong, 0), thing)
        self.assertEqual(whole(self.hall), before)
        self.assertEqual(self.hall.enter((0, ("work",))), 3)

    def test_hall(self):
        things = list(changed_leaves(self.house, spoilt_leaf)) + list(changed_tuples(self.house, spoilt_tuples))
        right = (("a", True, 0),)
        for thing in [one for one in junk() if not (isinstance(one, tuple) and one[:1] == (right,))] + things:
            refused = refusal(Hall, thing)
            self.assertEqual((refused.__class__, refused.place), (Wrong, 0), thing)
        self.assertEqual(refusal(Hall, self.hall).place, 0)

    def test_holder_of_any_value(self):
        self.assertEqual(self.hall.holder_of((0, 0)), 0)
        self.assertEqual(self.hall.holder_of((0, 1)), 1)
        for thing in junk() + [(0, True), (False, 0), (0, False), [0, 0], (0, 2), (1, 0), (0, 0, 0), ((0, 0),), self.hall]:
            if thing != (0, 0) or isinstance(thing, list):
                self.assertIsNone(self.hall.holder_of(thing), thing)

    def test_holder_of_truths(self):
        self.assertIsNone(self.hall.holder_of((0, True)))
        self.assertIsNone(self.hall.holder_of((False, True)))
        self.assertIsNone(self.hall.holder_of((False, 0)))


class TestUndo(unittest.TestCase):
    def test_back_to_the_beginning(self):
        draw = random.Random(24)
        for _ in range(120):
            house = drawn_house(draw)
            programs, row = drawn_run(draw, house, steps=50)
            hall = Hall(house)
            told = [whole(hall)]
            entries = [("enter", program) for program in programs]
            # Some enter in between, the order of the others being as it was.
            deeds = entries + [("step", person) for person in row]
            for name, thing in deeds:
                (hall.enter if name == "enter" else hall.step)(thing)
                told.append(whole(hall))
            self.assertEqual(hall.deeds_done(), deeds)
            for at in reversed(range(len(deeds))):
                self.assertEqual(hall.undo(), deeds[at])
                self.assertEqual(whole(hall), told[at])
            self.assertIs(refusal(hall.undo).__class__, Nothing)
            self.assertEqual(whole(hall), told[0])
            self.assertTrue(hall == Hall(house))

    def test_forth_and_back(self):
        draw = random.Random(25)
        for _ in range(60):
            house = drawn_house(draw)
            hall, done = Hall(house), []
            for _ in range(80):
                able = hall.steppers()
                if done and draw.random() < 0.4:
                    self.assertEqual(hall.undo(), done.pop())
                elif able and draw.random() < 0.85:
                    done.append(("step", draw.choice(able)))
                    hall.step(done[-1][1])
                else:
                    done.append(("enter", drawn_program(draw, house, 2)))
                    hall.enter(done[-1][1])
                fresh = Hall(house)
                for name, thing in done:
                    (fresh.enter if name == "enter" else fresh.step)(thing)
                self.assertEqual(whole(hall), whole(fresh))
                self.assertTrue(hall == fresh)

    def test_nothing(self):
        hall = Hall(house_with("wait", "wait"))
        self.assertIs(refusal(hall.undo).__class__, Nothing)
        hall.enter(taking(0, 1))
        self.assertEqual(hall.undo(), ("enter", taking(0, 1)))
        self.assertEqual((hall.persons_many(), hall.state()), (0, ((), ())))
        self.assertIs(refusal(hall.undo).__class__, Nothing)


class TestCopies(unittest.TestCase):
    def test_led_on_apart(self):
        draw = random.Random(26)
        for _ in range(60):
            house = drawn_house(draw)
            programs, row = drawn_run(draw, house, steps=40)
            for at in (0, len(row) // 2, len(row)):
                hall = hall_with(house, *programs)
                led_by(hall, row[:at])
                before = whole(hall)
                copied = hall.copied()
                self.assertEqual(whole(copied), before)
                self.assertTrue(hall == copied)
                led_by(copied, row[at:])
                copied.enter(programs[0])
                self.assertEqual(whole(hall), before)
                later = whole(copied)
                led_by(hall, row[at:])
                hall.enter(programs[-1])
                while hall.deeds_done():
                    hall.undo()
                self.assertEqual(whole(copied), later)
                while copied.deeds_done():
                    copied.undo()
                self.assertTrue(hall == copied)

    def test_copies_are_taken_back_apart(self):
        hall = hall_with(house_with("oust", "oust"), taking(0, 1, 2), taking(0, 1, 2))
        led_by(hall, (0, 0, 1, 1))
        copied = hall.copied()
        before = whole(copied)
        self.assertEqual([hall.undo(), hall.undo(), hall.step(0)], [("step", 1), ("step", 1), "take"])
        self.assertEqual(whole(copied), before)
        self.assertEqual([copied.undo() for _ in range(6)][-1], ("enter", taking(0, 1, 2)))

    def test_lists_are_new(self):
        hall = hall_with(house_with("wait", "wait"), taking(0, 1, 2), taking(0, 3, 1))
        led_by(hall, (0, 0, 1, 1))
        before = whole(hall)
        for name in ("steppers", "takers", "ages", "deeds_done"):
            getattr(hall, name)().clear()
            getattr(hall, name)().append(7)
        hall.locks_of(0).append((0, 7))
        hall.locks_of(1).clear()
        self.assertEqual(whole(hall), before)
        self.assertEqual(led_by(hall, (1, 0)), ["wait", "take"])


class TestEqual(unittest.TestCase):
    def test_in_different_ways(self):
        house = house_with("wait", "yield")
        one = hall_with(house, taking(0, 1, 2), taking(0, 3))
        other = hall_with(house, taking(0, 1, 2))
        led_by(other, (0, 0))
        other.enter(taking(0, 3))
        self.assertFalse(one == other)
        self.assertTrue(one != other)
        led_by(one, (0, 0))
        self.assertTrue(one == other)
        self.assertFalse(one != other)
        self.assertNotEqual(one.deeds_done(), other.deeds_done())
        one.step(1)
        self.assertFalse(one == other)
        one.undo()
        self.assertIs(one == other, True)

    def test_a_round_leads_back(self):
        house = house_with("yield", "yield")
        one = hall_with(house, taking(0, 1, 2), taking(0, 2, 1))
        led_by(one, (0, 0, 1, 1))
        other = one.copied()
        led_by(other, (0, 0, 0))
        self.assertTrue(one == other)

    def test_unlike(self):
        house = house_with("wait", "yield")
        one = hall_with(house, taking(0, 1, 2))
        self.assertFalse(one == hall_with(house, taking(0, 1, 3)))
        self.assertFalse(one == hall_with(house, taking(0, 1, 2), taking(0, 1, 2)))
        self.assertFalse(one == hall_with(house_with("wait", "wait"), taking(0, 1, 2)))
        self.assertFalse(Hall(house) == Hall(house_with("wait", "yield", (("l", True, 0),))))
        self.assertTrue(Hall(house) == Hall(house_with("wait", "yield")))

    def test_the_order_by_age_alone(self):
        house = house_with("wait", "wait")
        one, other = (hall_with(house, taking(0, 1), taking(0, 2)) for _ in range(2))
        led_by(one, (0, 1))
        led_by(other, (1, 0))
        self.assertFalse(one == other)
        led_by(one, (0, 1))
        led_by(other, (0, 1))
        self.assertTrue(one == other)

    def test_values_that_are_no_halls(self):
        hall = hall_with(house_with("wait", "yield"), taking(0, 1))
        for thing in junk() + [hall.state(), hall.deeds_done(), [hall], (hall,), Hall]:
            self.assertIs(hall == thing, False)
            self.assertIs(thing == hall, False)
            self.assertIs(hall != thing, True)

    def test_drawn_halls(self):
        draw = random.Random(27)
        for house in drawn_houses(28, 40, kinds=1, sorts=1):
            programs, row = drawn_run(draw, house, 2, 30)
            halls = []
            for at in range(0, len(row) + 1, 3):
                halls.append(hall_with(house, *programs))
                led_by(halls[-1], row[:at])
            for one in halls:
                for other in halls:
                    self.assertIs(one == other, one.state() == other.state())


if __name__ == "__main__":
    unittest.main()
