"""[60]: all states of programs."""

import random
import unittest

from comesthrough.errors import TooMany
from comesthrough.hall import Hall
from comesthrough.runs import hall_of, led
from comesthrough.search import can_all_end, ending_run, run_to, states_many, stuck_states, ways_on
from tests.model import Model, drawn_run
from tests.samples import changed_leaves, changed_tuples, drawn_house, drawn_houses, drawn_program, junk, refusal
from tests.searchmodel import model_behind, model_states, model_ways, unended

HOUSE = ((("k", True, 0),), ("s",), (((("wait", "wait"),),),))
ONE, OTHER = (0, ((0, 1), (0, 2))), (0, ((0, 2), (0, 1)))


def drawn_cases(seed, many, persons=(1, 3), most=400, **told):
    """Couples of a house and programs that take few locks, with at most so many states."""
    draw = random.Random(seed)
    found = []
    while len(found) < many:
        house = drawn_house(draw, kinds=draw.choice([1, 2, 3, 3, 4, 5]), sorts=draw.choice([1, 1, 2, 3]), **told)
        programs = tuple(drawn_program(draw, house, 2, 3) for _ in range(draw.randint(*persons)))
        if refusal(states_many, house, programs) is None and states_many(house, programs) <= most:
            found.append((house, programs))
    return found


def tight_cases(seed, many, words=("oust", "wait", "yield"), most=400):
    """Couples of a house of one sort and programs that all take the same two or three locks."""
    draw = random.Random(seed)
    found = []
    while len(found) < many:
        house = drawn_house(draw, kinds=draw.randint(1, 2), sorts=1, words=words)
        locks = [(0, number) for number in range(draw.choice([2, 2, 3]))]
        kinds = range(len(house[0]))
        programs = tuple(
            (draw.choice(kinds), tuple(draw.sample(locks, len(locks)) + ["work"] * draw.randint(0, 1)))
            for _ in range(draw.randint(2, 3))
        )
        if states_many(house, programs) <= most:
            found.append((house, programs))
    return found


CASES = (
    drawn_cases(650, 60) + tight_cases(651, 60, most=600) + tight_cases(652, 20, ("wait",))
    + drawn_cases(653, 12, (3, 4), 1200)
)


def told_key(state):
    """What tells the order of states: -1 in the place of None."""
    return tuple(tuple(-1 if part is None else part for part in told) for told in state[0]), state[1]


def works(*many):
    """Programs that only work, so many times each."""
    return tuple((0, ("work",) * times) for times in many)


class TestStates(unittest.TestCase):
    def test_the_example(self):
        self.assertEqual(states_many(HOUSE, (ONE,)), 4)
        self.assertEqual(run_to(HOUSE, (ONE,), (((0, 1, None),), (0,))), ((ONE,), (0, 0)))
        stuck = [(((0, 1, 1), (0, 1, 0)), (0, 1)), (((0, 1, 1), (0, 1, 0)), (1, 0))]
        self.assertEqual(stuck_states(HOUSE, (ONE, OTHER)), stuck)
        self.assertEqual(ending_run(HOUSE, (ONE, OTHER))[1], (0, 0, 0, 1, 1, 1))

    def test_against_a_search(self):
        seen = {"raised": 0, "stuck": 0, "many": 0}
        for house, programs in CASES:
            states = model_states(house, programs)
            ways = model_ways(house, programs, states)
            self.assertEqual(states_many(house, programs), len(states))
            stuck = sorted([state for state in states if not ways[state] and unended(programs, state)], key=told_key)
            self.assertEqual(stuck_states(house, programs), stuck)
            ended = [(len(row), row) for state, row in states.items() if not unended(programs, state)]
            self.assertIs(can_all_end(house, programs), len(ended) > 0)
            self.assertEqual(ending_run(house, programs), (programs, min(ended)[1]) if ended else None)
            seen["raised"] += any(told[0] != program[0] for state in states for told, program in zip(state[0], programs))
            seen["stuck"] += len(stuck) > 1
            seen["many"] += len(ended) > 1
        self.assertGreater(min(seen.values()), 3, seen)

    def test_all_can_end(self):
        # One behind the other all can, whatever the judge says.
        house = ((("k", True, 0),), ("s",), (((("wait", "wait"),),),))
        both = ((0, ((0, 1), (0, 2))), (0, ((0, 1), (0, 2))))
        self.assertIs(can_all_end(house, both), True)
        self.assertIs(can_all_end(house, (ONE, OTHER)), True)
        self.assertEqual(stuck_states(house, both), [])
        self.assertEqual(ending_run(house, both)[1], (0, 0, 0, 1, 1, 1))

    def test_ways_on_and_run_to(self):
        for house, programs in CASES[::3]:
            states = model_states(house, programs)
            ways = model_ways(house, programs, states)
            some = sorted(states, key=told_key)[:: max(1, len(states) // 12)]
            for state in some:
                wanted = [(person, way[0], way[1]) for person, way in sorted(ways[state].items())]
                self.assertEqual(ways_on(house, programs, state), wanted)
                ways_on(house, programs, state).append(None)
                self.assertEqual(ways_on(house, programs, state), wanted)
                run = run_to(house, programs, state)
                self.assertEqual(run, (programs, states[state]))
                self.assertEqual(led(house, run).state(), state)

    def test_run_to_all_states(self):
        for house, programs in tight_cases(654, 4, most=120):
            for state, row in model_states(house, programs).items():
                self.assertEqual(run_to(house, programs, state), (programs, row))
                self.assertEqual(model_behind(house, programs, row).state(), state)

    def test_states_of_drawn_runs(self):
        draw = random.Random(655)
        done = 0
        for _ in range(80):
            house = drawn_house(draw, kinds=2, sorts=1)
            programs, row = drawn_run(draw, house, draw.randint(2, 3), 16, 2, 3)
            hall = hall_of(house, programs)
            for person in row:
                hall.step(person)
            run = run_to(house, programs, hall.state())
            self.assertEqual(led(house, run).state(), hall.state())
            self.assertLessEqual(len(run[1]), len(row))
            self.assertTrue(len(run[1]) < len(row) or run[1] <= row)
            done += len(run[1]) < len(row)
        self.assertGreater(done, 5)

    def test_no_programs_hold_each_other_up(self):
        for house in drawn_houses(656, 10, kinds=1):
            self.assertEqual(states_many(house, works(1)), 3)
            # Both out; one at work, ended; both at work in two orders.
            self.assertEqual(states_many(house, works(1, 1)), 10)
            self.assertEqual(stuck_states(house, works(2, 3)), [])
            self.assertEqual(ending_run(house, works(2, 1)), (works(2, 1), (0, 0, 0, 1, 1)))


class TestNoState(unittest.TestCase):
    def test_any_value(self):
        programs = (ONE, OTHER)
        for thing in junk() + [hall_of(HOUSE, programs), Hall(HOUSE), programs, (programs, ()), [((), ())], ((), ())]:
            self.assertIsNone(run_to(HOUSE, programs, thing), thing)
        states = model_states(HOUSE, programs)
        for state in states:
            things = list(changed_leaves(state, lambda leaf: [[], {}, -2, "x", 10 ** 39, (leaf,), bool(leaf), "0", 7]))
            things += changed_tuples(state, lambda part: [list(part), part + (None,), None, (part,), "", {}, part + (0,)])
            for thing in things:
                self.assertIsNone(run_to(HOUSE, programs, thing), thing)

    def test_parts_exchanged(self):
        for house, programs in tight_cases(657, 6, most=150):
            states = model_states(house, programs)
            draw = random.Random(658)
            seen = set()
            for state in draw.sample(sorted(states, key=told_key), 10):
                for thing in changed_leaves(state, lambda leaf: [None, -1, 0, 1, 2, 3]):
                    wanted = (programs, states[thing]) if thing in states else None
                    self.assertEqual(run_to(house, programs, thing), wanted)
                    seen.add(wanted is None)
                for thing in ((state[0], state[1][::-1]), (state[0][::-1], state[1]), (state[0], ()), (state[0][:1], state[1])):
                    self.assertEqual(run_to(house, programs, thing), (programs, states[thing]) if thing in states else None)
            self.assertEqual(seen, {True, False})

    def test_truths_are_no_integers(self):
        state = (((0, 1, None), (0, 0, None)), (0, 1))
        self.assertEqual(run_to(HOUSE, (ONE, OTHER), state), ((ONE, OTHER), (0, 0, 1)))
        for thing in changed_leaves(state, lambda leaf: [] if leaf is None else [bool(leaf)]):
            self.assertIsNone(run_to(HOUSE, (ONE, OTHER), thing))
        waits = (((0, 1, 1), (0, 1, None)), (0, 1))
        self.assertEqual(run_to(HOUSE, (ONE, OTHER), waits), ((ONE, OTHER), (0, 0, 1, 1, 0)))
        self.assertIsNone(run_to(HOUSE, (ONE, OTHER), (((0, 1, True), (0, 1, None)), (0, 1))))


class TestTooMany(unittest.TestCase):
    def calls(self, programs):
        first = Model(HOUSE, programs).state()
        return (
            (states_many, (HOUSE, programs)), (ways_on, (HOUSE, programs, first)), (run_to, (HOUSE, programs, first)),
            (run_to, (HOUSE, programs, None)), (stuck_states, (HOUSE, programs)), (can_all_end, (HOUSE, programs)),
            (ending_run, (HOUSE, programs)),
        )

    def test_one_program(self):
        self.assertEqual(states_many(HOUSE, works(19998)), 20000)
        for call, told in self.calls(works(19998)):
            self.assertIsNone(refusal(call, *told))
        for call, told in self.calls(works(19999)):
            refused = refusal(call, *told)
            self.assertEqual((refused.__class__, refused.most), (TooMany, 20000))

    def test_programs_of_sixteen_deeds(self):
        # Of persons that only work each lot can be active, in any order by age: 2 + 2 * (6 * 16) + ..
        self.assertEqual(states_many(HOUSE, works(16, 16)), 4 + 2 * 2 * 16 + 2 * 16 * 16)
        self.assertEqual(states_many(HOUSE, works(12, 13)), 4 + 2 * 25 + 2 * 12 * 13)
        for programs in (works(16, 16, 16), works(*[1] * 12)):
            for call, told in self.calls(programs):
                self.assertEqual(refusal(call, *told).most, 20000)

    def test_ending_far_off(self):
        run = ending_run(HOUSE, works(19998))
        self.assertEqual(run[1], (0,) * 19999)
        self.assertEqual(run_to(HOUSE, works(19998), (((0, 19997, None),), (0,)))[1], (0,) * 19998)


if __name__ == "__main__":
    unittest.main()
