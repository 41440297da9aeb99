"""[46]: streams, by which new persons step without end."""

import random
import unittest

from comesthrough.hall import Hall
from comesthrough.openstories import open_story
from comesthrough.runs import is_run
from comesthrough.streams import goes_on, is_stream, led_stream, stream_holds
from tests.model import Model, Person, model_is_held, run_on
from tests.openmodel import model_broken, model_comes_through_open, model_is_stream, model_led, model_names, model_span
from tests.samples import aged_house, aged_houses, changed_leaves, changed_tuples, drawn_house, drawn_program, junk

WAITS = ((("a", True, 0),), ("s",), (((("wait", "yield"),),),))
BOTH = ((("a", True, 0),), ("s",), (((("wait", "wait"),),),))
# Who asks in the sort s yields, who asks in the sort t waits; and likewise for three kinds, a rising to b.
TWO = ((("a", True, 0),), ("s", "t"), (((("yield", "yield"),),), ((("wait", "wait"),),)))
ALIKE = (
    (("a", True, 1), ("b", True, 1), ("c", True, 2)), ("s", "t"),
    (((("yield", "yield"),) * 3,) * 3, ((("wait", "wait"),) * 3,) * 3),
)
STREAM = (
    ((0, ((0, 1),)), (0, ((0, 1), (0, 2)))), (0, 1, 1, 0), ((0, ((0, 2, 1), (0, 3, 1))),),
    (("new", 0, 0), ("new", 0, 0), ("new", 0, 1)),
)
# Two persons who wait for each other in the sort t, and hold (1, 8) and (1, 9).
RING = ((0, ((1, 8), (1, 9))), (0, ((1, 9), (1, 8))))
RING_ROW = (0, 1, 0, 1, 0, 1)
ENDED = ((0, ("work",)),)


def with_part(stream, at, part):
    return stream[:at] + (part,) + stream[at + 1:]


def drawn_stream(draw, house):
    """A tuple of the form of a STREAM whose first lap can be led; mostly a STREAM."""
    many, shifts = draw.choice([0, 1, 1, 1, 2]), [draw.choice([0, 1, 1, 2]) for _ in house[1]]
    span = draw.choice([0, 1, 1, 2]) if many else 0
    fresh = []
    for _ in range(many):
        kind, deeds = drawn_program(draw, house, 3, 3)
        fresh.append((kind, tuple(deed if deed == "work" else (deed[0], deed[1] + 3, shifts[deed[0]]) for deed in deeds)))
    programs = [drawn_program(draw, house, 3, 3) for _ in range(draw.randint(1, 2))]
    for lap in range(-span, 0):
        for kind, deeds in fresh:
            told = [deed if deed == "work" else (deed[0], abs(deed[1] + deed[2] * lap)) for deed in deeds]
            programs.append((kind, tuple(told)) if len(set(told)) == len(told) else (kind, ("work",)))
    programs, row = run_on(draw, house, tuple(programs), draw.randint(0, 10))
    names = model_names((programs, row, tuple(fresh), (("new", 0, span),) if many else (("old", 0),)))
    model = Model(house, programs)
    for person in row:
        model.step(person)
    for index, (kind, deeds) in enumerate(fresh):
        names.append(("new", 0, index))
        model.people.append(Person((kind, tuple(deed if deed == "work" else deed[:2] for deed in deeds))))
    again = []
    for _ in range(draw.randint(1, 12)):
        able = [person for person in range(len(names)) if model.can_step(person)]
        if able:
            person = draw.choice(able)
            again.append(names[person] if names[person][0] == "old" else ("new", names[person][2], -names[person][1]))
            model.step(person)
    return (programs, row, tuple(fresh), tuple(again or [("old", 0)]))


def changed(draw, thing):
    """A nested tuple with a part left out, doubled, exchanged for its neighbour, or with another leaf."""
    if not isinstance(thing, tuple):
        return draw.choice([0, 1, 2, thing + 1, max(0, thing - 1), thing + 3]) if isinstance(thing, int) else thing
    if not thing:
        return thing
    at, chance = draw.randrange(len(thing)), draw.random()
    if chance < 0.1:
        return thing[:at] + thing[at + 1:]
    if chance < 0.2:
        return thing[:at] + (thing[at],) + thing[at:]
    if chance < 0.3 and at + 1 < len(thing):
        return thing[:at] + (thing[at + 1], thing[at]) + thing[at + 2:]
    return thing[:at] + (changed(draw, thing[at]),) + thing[at + 1:]


def told_streams(seed, many):
    """Couples of a house and a stream of it that holds somebody off who is not held off in the closed house."""
    found = []
    for house in aged_houses(seed, many):
        for kind in range(len(house[0])):
            if not model_comes_through_open(house, kind) and not model_is_held(house, kind):
                found.append((house, open_story(house, kind)))
    return found


class TestIsStream(unittest.TestCase):
    def test_the_example(self):
        self.assertIs(is_stream(WAITS, STREAM), True)
        self.assertIs(goes_on(WAITS, STREAM), True)
        self.assertEqual(stream_holds(WAITS, STREAM), [0])

    def test_too_few_programs(self):
        step = (("new", 0, 0),)
        for programs, span, wanted in ((0, 0, False), (1, 0, True), (1, 1, False), (2, 1, True), (2, 2, False), (3, 2, True)):
            stream = (ENDED * programs, (), STREAM[2], step + (("new", 0, span),))
            self.assertIs(is_stream(WAITS, stream), wanted)
            # Two fresh programs, of which one is told of in no step, want twice as many.
            stream = (ENDED * programs, (), STREAM[2] * 2, step + (("new", 1, span),))
            self.assertIs(is_stream(WAITS, stream), programs > 2 * span)
        self.assertIs(is_stream(WAITS, (ENDED, (), STREAM[2], (("new", 0, 10 ** 39),))), False)

    def test_old_steps(self):
        fresh = STREAM[2] * 2
        for index in range(7):
            stream = (ENDED * 5, (), fresh, (("new", 0, 0), ("new", 0, 1), ("old", index)))
            self.assertIs(is_stream(WAITS, stream), index < 3)
            stream = (ENDED * 5, (), fresh, (("old", index), ("new", 1, 2)))
            self.assertIs(is_stream(WAITS, stream), index < 1)
            self.assertIs(is_stream(WAITS, (ENDED * 5, (), (), (("old", index),))), index < 5)

    def test_locks_alike_in_a_lap(self):
        locks = [(number, shift) for number in range(4) for shift in range(4)]
        for one in locks:
            for other in locks:
                meets = any(one[0] + one[1] * lap == other[0] + other[1] * lap for lap in range(5))
                for sort, wanted in ((0, not meets), (1, True)):
                    fresh = (0, ((0,) + one, "work", (sort,) + other))
                    self.assertIs(is_stream(TWO, (ENDED, (), (fresh,), (("new", 0, 0),))), wanted, fresh)
        for one, other, wanted in (
            ((10 ** 30, 1), (0, 2), False), ((1, 10 ** 30), (0, 1), True), ((7, 2), (0, 5), True), ((9, 2), (0, 5), False),
            ((0, 3), (10 ** 30 + 1, 1), True), ((0, 3), (10 ** 30, 1), False), ((10 ** 30, 3), (0, 1), True),
        ):
            fresh = (0, ((0,) + one, (0,) + other))
            self.assertIs(is_stream(TWO, (ENDED, (), (fresh,), (("new", 0, 0),))), wanted)
        for stream in ((ENDED, (), ((0, ((0, 1, 1), "work", "work")),), (("new", 0, 0),)), (ENDED, (), (), (("old", 0),))):
            self.assertIs(is_stream(TWO, stream), True)

    def test_steps(self):
        steps = [
            (("old", 0), True), (("old", 1), True), (("old", 2), False), (("old", -1), False), (("old", True), False),
            (("old", 0, 0), False), (("old",), False), (("new", 0, 0), True), (("new", 0, 1), True), (("new", 0, 2), False),
            (("new", 0, -1), False), (("new", 1, 0), False), (("new", -1, 0), False), (("new", 0), False), ((), False),
            (("new", False, 0), False), (("new", 0, False), False), (("new", 0, 0, 0), False), (("Old", 0), False),
            (["old", 0], False), (("old", (0,)), False), (("old", "0"), False), ("old", False), (0, False), (None, False),
            (("new", 0, None), False), (("new", 0, "0"), False), ((0, "old"), False), ((None, 0), False), (("old", None), False),
            (("new", 0, [0]), False), ((0, 0, 0), False), (("stand", 0), False), (("", 0), False), ((["old"], 0), False),
        ]
        for step, wanted in steps:
            self.assertIs(is_stream(WAITS, (ENDED * 2, (), STREAM[2], (step,))), wanted, step)
            # With the span 1 the second program stands for that of the lap -1.
            later = (("new", 0, 1), step)
            self.assertIs(is_stream(WAITS, (ENDED * 2, (), STREAM[2], later)), wanted and step != ("old", 1), step)
        self.assertIs(is_stream(WAITS, (ENDED, (), STREAM[2], ())), False)
        self.assertIs(is_stream(WAITS, (ENDED, (), (), (("new", 0, 0),))), False)

    def test_fresh_programs(self):
        programs = [
            ((0, ()), False), ((0, ("work",)), True), ((0, ("works",)), False), ((0, ((0, 0, 0),)), True),
            ((0, ((0, 0),)), False), ((0, ((0, 0, 0, 0),)), False), ((0, ((1, 0, 0),)), False), ((1, ((0, 0, 0),)), False),
            ((0, ((0, -1, 0),)), False), ((0, ((0, 0, -1),)), False), ((0, ((0, True, 0),)), False), ((0, (0, 0, 0)), False),
            ((0, ((0, 0, True),)), False), ((0, ((False, 0, 0),)), False), ((False, ((0, 0, 0),)), False), ((-1, ("work",)), False),
            ((0, [(0, 0, 0)]), False), ((0, ([0, 0, 0],)), False), ([0, ((0, 0, 0),)], False), ((0, "work"), False),
            ((0, ((0, 0, "0"),)), False), ((0, ((0, 0, None),)), False), ((0, ((0, 10 ** 39, 10 ** 39),)), True),
            ((0,), False), ((0, ("work",), 0), False), ((), False), (None, False), (0, False), ("work", False),
            ((0, ("work", (0, 0, 0), "work")), True), ((0, ((0, 0, 0), (0, 0, 0))), False), ((0, ((0, 0, ()),)), False),
        ]
        for program, wanted in programs:
            self.assertIs(is_stream(WAITS, (ENDED, (), (program,), (("new", 0, 0),))), wanted, program)
            self.assertIs(is_stream(WAITS, (ENDED, (), (program,) + STREAM[2], (("new", 1, 0),))), wanted, program)

    def test_runs(self):
        programs, row, fresh, again = STREAM
        for other in (row + (0,), (1,) + row[2:], (2,), (True, 0), list(row), None, (0, 0, 0, 0), "", ((0,),), row + (None,)):
            stream = (programs, other, fresh, again)
            self.assertIs(is_stream(WAITS, stream), isinstance(other, tuple) and is_run(WAITS, (programs, other)))
        self.assertIs(is_stream(WAITS, (programs, (), fresh, again)), True)
        for other in (list(programs), (), programs[:1], (programs,), programs + (0,), None, programs[0], "work", {}):
            self.assertIs(is_stream(WAITS, (other, (), fresh, again)), False)

    def test_drawn_tuples(self):
        draw = random.Random(460)
        seen = {True: 0, False: 0}
        for _ in range(400):
            house = drawn_house(draw, kinds=draw.randint(1, 2), sorts=draw.randint(1, 2))
            stream = drawn_stream(draw, house)
            for step in (("old", 0), ("old", 1), ("old", 2), ("new", 0, 2), ("new", 0, 1)):
                if step[0] == "old" or stream[2]:
                    thing = with_part(stream, 3, stream[3] + (step,))
                    self.assertIs(is_stream(house, thing), model_is_stream(house, thing))
                    seen[is_stream(house, thing)] += 1
        self.assertGreater(min(seen.values()), 200)

    def test_any_value(self):
        two = (STREAM[0], STREAM[1], ((0, ((0, 2, 1), "work", (0, 3, 1))),), STREAM[3] + (("old", 0),))
        for house, stream in ((WAITS, STREAM), (WAITS, two)):
            self.assertIs(is_stream(house, stream), True)
            for thing in junk() + [Hall(house), list(stream), [stream], stream[:3], stream + ((),), (stream,), stream[::-1]]:
                self.assertIs(is_stream(house, thing), False)
            spoilt = lambda leaf: [None, [], {}, -1, "x", bool(leaf), Hall(house), str(leaf)]
            for thing in changed_leaves(stream, lambda leaf: [one for one in spoilt(leaf) if one != leaf or one is True]):
                self.assertIs(is_stream(house, thing), False, thing)
            for thing in changed_tuples(stream, lambda part: [list(part), part + (None,), None, (part,), "", {}]):
                self.assertIs(is_stream(house, thing), False, thing)


class TestLedStream(unittest.TestCase):
    def test_the_example(self):
        programs, row = STREAM[:2]
        self.assertEqual(led_stream(WAITS, STREAM, 0), (programs, row))
        one = programs + ((0, ((0, 2), (0, 3))),)
        self.assertEqual(led_stream(WAITS, STREAM, 1), (one, row + (2, 2, 1)))
        two = one + ((0, ((0, 3), (0, 4))),)
        self.assertEqual(led_stream(WAITS, STREAM, 2), (two, row + (2, 2, 1, 3, 3, 2)))

    def test_two_fresh_programs(self):
        fresh = ((0, ((0, 5, 2), "work")), (0, ((0, 6, 2), (1, 7, 0))))
        again = (("new", 1, 2), ("old", 0), ("new", 0, 0), ("new", 1, 1), ("new", 0, 2))
        stream = (ENDED * 6, (3,), fresh, again)
        self.assertIs(is_stream(TWO, stream), True)
        programs, row = led_stream(TWO, stream, 3)
        self.assertEqual(programs[6:8], ((0, ((0, 5), "work")), (0, ((0, 6), (1, 7)))))
        self.assertEqual(programs[10:], ((0, ((0, 9), "work")), (0, ((0, 10), (1, 7)))))
        self.assertEqual(row, (3, 3, 0, 6, 5, 2, 5, 0, 8, 7, 4, 7, 0, 10, 9, 6))

    def test_drawn_streams(self):
        draw = random.Random(461)
        for house, stream in told_streams(462, 40):
            for times in (0, 1, 2, 5):
                self.assertEqual(led_stream(house, stream, times), model_led(stream, times))
        for _ in range(200):
            house = drawn_house(draw, kinds=2)
            stream = drawn_stream(draw, house)
            for times in (0, 1, 3):
                told = led_stream(house, stream, times)
                self.assertEqual(told, model_led(stream, times))
                self.assertEqual((told.__class__, told[0].__class__, told[1].__class__), (tuple,) * 3)


class TestGoesOn(unittest.TestCase):
    def check(self, house, stream):
        """Whether a stream goes on, by the program and by the document's words."""
        self.assertIs(is_stream(house, stream), True)
        broken = model_broken(house, stream)
        self.assertIs(goes_on(house, stream), not broken, (house, stream, broken))
        return broken

    def test_streams_of_the_program(self):
        draw = random.Random(463)
        seen = {}
        for house, stream in told_streams(464, 300):
            self.assertEqual(self.check(house, stream), set())
            for _ in range(25):
                other = changed(draw, stream)
                if is_stream(house, other) if len(other) == 4 else False:
                    broken = self.check(house, other)
                    for told in broken or {"none"}:
                        seen[told] = seen.get(told, 0) + 1
        self.assertTrue({"none", "run", "below", "apart", "places", "spent steps", "idle"} <= set(seen), seen)
        self.assertGreater(min(seen["none"], seen["run"], seen["idle"]), 30)

    def test_drawn_streams(self):
        draw = random.Random(465)
        seen = {}
        for _ in range(5000):
            make = drawn_house if draw.random() < 0.6 else aged_house
            house = make(draw, kinds=draw.randint(1, 2))
            stream = drawn_stream(draw, house)
            if is_stream(house, stream):
                broken = self.check(house, stream)
                told = (min(broken) if len(broken) == 1 else len(broken), min(model_span(stream), 1))
                seen[told] = seen.get(told, 0) + 1
        self.assertTrue({(0, 1), (0, 0), ("run", 0), ("run", 1), ("spent steps", 0)} <= set(seen), seen)

    def test_unlike_shifts(self):
        for sort in (0, 1):
            for shift in range(4):
                fresh = ((0, ((0, 5, 1),)), (0, ((sort, 6, shift),)))
                stream = (ENDED, (0, 0), fresh, (("new", 0, 0),) * 2 + (("new", 1, 0),) * 2)
                self.assertEqual(self.check(TWO, stream), set() if sort == 1 or shift == 1 else {"shifts"})
        for first, second, wanted in ((0, 0, set()), (1, 0, {"shifts"}), (1, 1, set()), (1, 2, {"shifts"}), (0, 1, {"shifts"})):
            fresh = ((0, ((0, 7, first), (0, 6 if first > second else 8, second))),)
            self.assertEqual(self.check(TWO, (ENDED, (0, 0), fresh, (("new", 0, 0),) * 3)), wanted)

    def test_numbers_too_far_apart(self):
        for span in range(3):
            # Each holds its locks till it ends so many laps later; those of the laps ahead of the first one do the same.
            programs = ENDED + ((0, ("work",) * 3),) * span
            row = (0, 0) + tuple(person for person in range(1, span + 1) for _ in range(3))
            again = (("new", 0, 0),) * 3 + (("new", 0, span),)
            seen = set()
            for shift in (1, 2, 3):
                for apart in range(1, 14):
                    if apart % shift or apart > shift * span:
                        fresh = ((0, ((0, 9, shift), (0, 9 + apart, shift), "work")),)
                        wanted = {"apart"} if apart > shift * (span + 1) else set()
                        self.assertEqual(self.check(TWO, (programs, row, fresh, again)), wanted)
                        fresh = ((0, ((0, 9 + apart, shift), (0, 9, shift), "work")),)
                        self.assertEqual(self.check(TWO, (programs, row, fresh, again)), wanted)
                        seen.add(apart - shift * (span + 1))
            self.assertTrue({-1, 0, 1} <= seen)
        for apart in range(1, 14):
            fresh = ((0, ((0, 9, 0), (0, 9 + apart, 0))),)
            self.assertEqual(self.check(TWO, (ENDED, (0, 0), fresh, (("new", 0, 0),) * 3)), set())

    def test_numbers_of_two_fresh_programs(self):
        for number in range(5, 12):
            fresh = ((0, ((0, 8, 2),)), (0, ((0, number, 2),)))
            stream = (ENDED, (0, 0), fresh, (("new", 0, 0),) * 2 + (("new", 1, 0),) * 2)
            self.assertEqual(self.check(TWO, stream), {"apart"} if abs(number - 8) > 2 else set())

    def test_numbers_of_programs(self):
        for old in (None, 0, 1, 2, 3, 4):
            for stand_in in (None, 0, 3, 4):
                first = (0, ((0, 1),) if old in (None, 1) else ((0, 1), (0, old)))
                second = (0, ((0, 1), (0, 2)) if stand_in is None else ((0, 1), (0, 2), (0, stand_in)))
                wanted = {"below"} if old in (2, 3, 4) else set()
                wanted |= {"above"} if 4 in (old, stand_in) else set()
                self.assertEqual(self.check(WAITS, with_part(STREAM, 0, (first, second))), wanted)

    def test_numbers_that_do_not_matter(self):
        # Those of locks of a sort that does not shift, or that no newcomer takes.
        house = WAITS[:1] + (("s", "t"), WAITS[2] * 2)
        first, second = STREAM[0]
        for number in (0, 5, 7, 9, 10 ** 30):
            programs = ((0, first[1] + ((1, number),)), (0, second[1] + ((1, number),)))
            self.assertEqual(self.check(house, with_part(STREAM, 0, programs)), set())
            fresh = ((0, STREAM[2][0][1] + ((1, 7, 0), "work", (1, 99, 0))),)
            self.assertEqual(self.check(house, (programs, STREAM[1], fresh, STREAM[3])), set())

    def test_laps_that_are_no_run(self):
        programs, row, fresh, again = STREAM
        for other in (again + (("new", 0, 0),), again + (("new", 0, 1),), (("new", 0, 1),) + again, again + (("old", 0),)):
            self.assertEqual(self.check(WAITS, (programs, row, fresh, other)) & {"run"}, {"run"})
        # Only in the second lap somebody steps that is ended.
        stream = (ENDED * 2, (0, 0, 1), ((0, ("work",)),), (("new", 0, 0),) * 2 + (("new", 0, 1),))
        self.assertEqual(self.check(WAITS, stream), {"run"})

    def test_a_lap_far_from_the_first_one(self):
        # The third one comes to a lock of the one for whom the program 2 stands, who waits for a person of the ring.
        fresh = ((0, ((0, 5, 1), (1, 9, 0), (0, 7, 1))), (0, ("work",)))
        again = (("new", 0, 0),) * 3 + (("new", 1, 0), ("new", 1, 1))
        met = {"spent steps", "spent holds", "waits", "places"}
        for number, wanted in ((4, set()), (7, met), (6, met), (5, met - {"spent holds"})):
            programs = RING + ((0, ((0, number), (1, 9))), (0, ("work",)))
            self.assertEqual(self.check(TWO, (programs, RING_ROW + (2, 2, 2, 3), fresh, again)), wanted)

    def test_other_ages(self):
        fresh = ((0, ("work", "work")),) * 2
        again = (("new", 0, 0), ("new", 1, 0)) + (("new", 0, 1),) * 2 + (("new", 1, 1),) * 2
        stream = (ENDED + fresh, (0, 0, 1, 2), fresh, again)
        self.assertEqual(self.check(TWO, stream), set())
        self.assertEqual(self.check(TWO, with_part(stream, 1, (0, 0, 2, 1))), {"ages"})

    def test_other_places(self):
        fresh = ((0, ("work", "work")),) * 2
        again = (("new", 0, 0), ("new", 1, 0)) + (("new", 0, 1), ("new", 1, 1)) * 2
        stream = (ENDED + fresh, (0, 0, 1, 2), fresh, again)
        self.assertEqual(self.check(TWO, stream), set())
        programs = ENDED + fresh[:1] + ((0, ("work",) * 3),)
        self.assertEqual(self.check(TWO, (programs, (0, 0, 1, 2, 2), fresh, again)), {"places"})
        # Of an old person, too, that has no further to go than so many laps.
        for many in (3, 4, 9):
            stream = (((0, ("work",) * many),), (0,), (), (("old", 0),))
            self.assertEqual(self.check(TWO, stream), {"places"} if many > 3 else {"places", "ages"})

    def test_who_is_ended(self):
        # However many deeds it has had; the second fresh program is there for the span alone.
        fresh = ((0, ("work", "work")), (0, ("work",)))
        again = (("new", 0, 0),) * 3 + (("new", 1, 0), ("new", 1, 1))
        for many in range(1, 5):
            for done in range(many + 2):
                programs = ENDED + ((0, ("work",) * many), (0, ("work",)))
                row = (0, 0) + (1,) * done + (2,)
                self.assertEqual(self.check(TWO, (programs, row, fresh, again)) == set(), done == many + 1)

    def test_other_kinds(self):
        ring = tuple((2, deeds) for _, deeds in RING)
        for kind in range(3):
            # Who begins in a lap asks in the next one, and then waits for ever.
            stream = (ring + ((kind, ((1, 8),)),), RING_ROW + (2,), ((1, ((1, 8, 0),)),), (("new", 0, 0), ("new", 0, 1)))
            self.assertEqual(self.check(ALIKE, stream), set() if kind == 1 else {"kinds"})
        # An old person that rises is put out in each lap.
        ring = ((2, ((0, 5), (1, 8), (1, 9))), (2, ((1, 9), (1, 8))))
        for kind in range(3):
            stream = (ring + ((kind, ((0, 5),)),), (0, 0, 0, 1, 1, 0, 1, 2), (), (("old", 2), ("old", 2)))
            self.assertEqual(self.check(ALIKE, stream), {"kinds"} if kind == 0 else set())

    def test_other_waits(self):
        fresh = ((0, ((1, 9, 0),)), (0, ("work",)))
        again = (("new", 0, 0), ("new", 0, 0), ("new", 1, 0), ("new", 1, 1))
        for number, wanted in ((8, {"waits"}), (9, set())):
            programs = RING + ((0, ((1, number),)), (0, ("work",)))
            self.assertEqual(self.check(TWO, (programs, RING_ROW + (2, 2, 3), fresh, again)), wanted)

    def test_other_waits_of_old_persons(self):
        # Person 2 waits for the newcomer with the lock (1, 5); when that ends it takes the lock, and yields elsewhere.
        ring = ((0, ((0, 6), (1, 8), (1, 9))), (0, ((1, 9), (1, 8))))
        takes, works = (0, ((1, 5, 0), "work")), (0, ("work", "work"))
        again = (
            ("new", 0, 1), ("new", 1, 1), ("old", 2), ("old", 2), ("new", 0, 0), ("new", 0, 0), ("new", 1, 0), ("new", 1, 0),
            ("old", 2), ("old", 2),
        )
        row = (0, 0, 0, 1, 1, 0, 1, 2, 3, 3, 4, 4, 2)
        for first, second, wanted in ((0, 1, set()), (1, 0, {"waits"})):
            stand_ins = ((0, ((1, 5), "work")), works)
            programs = ring + ((0, ((1, 5), (0, 6))),) + (stand_ins[first], stand_ins[second])
            self.assertEqual(self.check(TWO, (programs, row, (takes, works), again)), wanted)
            self.assertEqual(self.check(TWO, (programs, row, (works, takes), again)), {"waits"} - wanted)

    def test_waits_of_who_never_steps(self):
        # Person 0 of the example waits for the program 1 in all laps, which stands for one lap alone.
        self.assertEqual(self.check(WAITS, STREAM), set())
        for programs, row in (STREAM[:2], led_stream(WAITS, STREAM, 3)):
            model = Model(WAITS, programs)
            for person in row:
                model.step(person)
            self.assertEqual(model.people[0].waits, 1)

    def test_a_lock_held_by_one_that_is_spent(self):
        # Person 2 asks in each lap for the lock (0, 1), and yields.
        again = (("new", 0, 0),) * 3 + (("new", 1, 0), ("new", 1, 1), ("old", 2), ("old", 2))
        fresh = ((0, ((0, 5, 1), (1, 9, 0))), (0, ("work",)))
        row = (0, 0, 0, 1, 1, 0, 1, 2, 3, 3, 3, 4)
        for mine, wanted in ((1, {"spent holds"}), (2, set())):
            ring = ((0, ((0, 3 - mine), (1, 8), (1, 9))), (0, ((1, 9), (1, 8))))
            programs = ring + ((0, ((0, 1),)), (0, ((0, mine), (1, 9))), (0, ("work",)))
            self.assertEqual(self.check(TWO, (programs, row, fresh, again)), wanted)
        # Who begins does not come to a lock, though its last deed is that one; it yields at another one.
        ring = ((0, ((0, 2), (1, 8), (1, 9))), (0, ((1, 9), (1, 8))))
        programs = ring + ((0, ((0, 2), (0, 1))), (0, ((0, 1), (1, 9))), (0, ("work",)))
        self.assertEqual(self.check(TWO, (programs, row, fresh, again)), set())

    def test_who_can_step_while_it_is_spent(self):
        for done, wanted in ((1, {"spent steps"}), (2, {"spent steps"}), (3, set())):
            stream = (ENDED, (0, 0), ((0, ("work", "work")),), (("new", 0, 0),) * done)
            self.assertEqual(self.check(TWO, stream), wanted)
        # Who is left at its last deed is so in the next lap but one, too, if the span is 1.
        fresh = ((0, ("work", "work")), (0, ("work",)))
        for done, wanted in ((0, {"spent steps"}), (1, set())):
            again = (("new", 0, 0),) * 2 + (("new", 1, 0), ("new", 1, 1)) + (("new", 0, 1),) * done
            stream = (ENDED + fresh, (0, 0, 1, 1, 2), fresh, again)
            self.assertEqual(self.check(TWO, stream), wanted)

    def test_an_old_person_that_does_not_step(self):
        works = ((0, ("work", "work")),)
        for row, wanted in (((), {"idle"}), ((0,), {"idle"}), ((0, 0), {"idle"}), ((0, 0, 0), set())):
            self.assertEqual(self.check(TWO, (works, row, works, (("new", 0, 0),) * 3)), wanted)

    def test_an_old_person_at_a_free_lock(self):
        ring = ((0, ((0, 2), (1, 8), (1, 9))), (0, ((1, 9), (1, 8))))
        # Person 3 takes (0, 1), and yields at (0, 2); meanwhile person 2 asks, and yields, and begins again.
        again = (("old", 3), ("old", 2), ("old", 2), ("old", 3), ("old", 3), ("old", 3))
        row = (0, 0, 0, 1, 1, 0, 1, 2, 3)
        for number, wanted in ((1, {"free"}), (2, set())):
            programs = ring + ((0, ((0, number),)), (0, ((0, 1), "work", (0, 2))))
            self.assertEqual(self.check(TWO, (programs, row, (), again)), wanted)
            works = ((0, ("work",)),)
            self.assertEqual(self.check(TWO, (programs, row, works, again + (("new", 0, 0),) * 2)), wanted)
        # Who takes it at another time of the lap takes it.
        programs = ring + ((0, ((0, 1), (0, 2))), (0, ((0, 1), "work", (0, 2))))
        again = again + (("old", 2), ("old", 2), ("old", 2))
        self.assertEqual(self.check(TWO, (programs, row, (), again)), set())

    def test_shift_0(self):
        for number in (0, 5):
            fresh = ((0, ((0, number, 0), "work", (0, 3, 0))),)
            self.assertEqual(self.check(TWO, (ENDED, (0, 0), fresh, (("new", 0, 0),) * 4)), set())
            old = ((0, ((0, number), (0, 9))),)
            self.assertEqual(self.check(TWO, (old, (0, 0, 0), fresh, (("new", 0, 0),) * 4)), set())
            self.assertNotEqual(self.check(TWO, (old, (0, 0), fresh, (("new", 0, 0),) * 4)), set())

    def test_no_fresh_programs(self):
        # What goes on without newcomers goes on as a round does.
        programs = ((0, ((0, 1), "work", (0, 2))), (0, ((0, 2), "work", (0, 1))))
        again = tuple(("old", person) for person in (1, 1, 1, 1, 0, 0, 0, 0))
        self.assertEqual(self.check(TWO, (programs, (0, 1, 0, 1), (), again)), set())
        self.assertEqual(self.check(TWO, (programs, (0, 1, 0, 1), (), again[:4])), {"idle"})

    def test_stream_holds(self):
        for many in range(4):
            programs = tuple((0, ("work",) * (1 if person == many else 2)) for person in range(4)) + ENDED * 2
            row = tuple(person for person in range(6) for _ in range(2))
            stream = (programs, row, ((0, ("work",)),), (("new", 0, 0), ("new", 0, 2)))
            self.assertEqual(stream_holds(TWO, stream), [person for person in range(4) if person != many])
            stream_holds(TWO, stream).clear()
            self.assertEqual(len(stream_holds(TWO, stream)), 3)
        for house, stream in told_streams(466, 60):
            model = Model(house, stream[0])
            for person in stream[1]:
                model.step(person)
            old = [person for person, name in enumerate(model_names(stream)) if name[0] == "old"]
            wanted = [person for person in old if model.people[person].status != "ended"]
            self.assertEqual(stream_holds(house, stream), wanted)
            self.assertIn(0, wanted)


if __name__ == "__main__":
    unittest.main()
