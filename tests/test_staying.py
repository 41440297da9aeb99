"""[64]: staying out."""

import itertools
import random
import unittest

from comesthrough.errors import BadStep
from comesthrough.runs import is_run
from comesthrough.staying import charges, crew_round, led_staying, puts_out
from tests.model import run_on, tight_run
from tests.samples import drawn_house, drawn_houses, refusal
from tests.staymodel import Stay, model_puts_out, stay_led, stay_run_on

BOTH = ((("a", True, 0),), ("s",), (((("yield", "yield"),),),))
OUSTS = ((("a", True, 0),), ("s",), (((("oust", "oust"),),),))


def tight_programs(draw, house):
    """Two to five programs which want the same few locks."""
    kinds = range(len(house[0]))
    sorts = range(len(house[1]))
    locks = [(draw.choice(sorts), number) for number in range(draw.randint(1, 3))]
    return tuple(
        (draw.choice(kinds), tuple(draw.sample(locks, len(locks)) + ["work"] * draw.randint(0, 1)))
        for _ in range(draw.randint(2, 5))
    )


def meek_houses(seed, many, words=("wait", "yield"), **told):
    return drawn_houses(seed, many, words=words, rising=False, **told)


def drawn_halls(seed, many, **told):
    draw = random.Random(seed)
    houses = [drawn_house(draw, kinds=draw.randint(1, 3), sorts=draw.randint(1, 2), **told) for _ in range(many)]
    return [(house, tight_programs(draw, house)) for house in houses]


# Houses with all words, with rises, kinds that do not keep their ages; meek ones; those in which many are put out.
HALLS = (
    drawn_halls(700, 150) + drawn_halls(701, 60, words=("oust", "yield")) + drawn_halls(702, 60, words=("oust",))
    + drawn_halls(703, 80, words=("wait", "yield"), rising=False) + drawn_halls(704, 40, words=("yield",), rising=False)
)


class TestLedStaying(unittest.TestCase):
    def test_the_example(self):
        one = (0, ((0, 0), "work"))
        run = ((one, one), (0, 0, 1, 1, 0, 1, 1, 1))
        self.assertEqual(led_staying(BOTH, run), [(1, True), (2, True)])
        self.assertEqual(charges(BOTH, run), [(1, 1, 0, 1)])

    def test_runs_that_keep_the_rule(self):
        draw = random.Random(705)
        again = yields = ousts = ends = 0
        for house, programs in HALLS:
            run = stay_run_on(draw, house, programs, draw.choice([5, 30, 120]))
            self.assertIs(is_run(house, run), True)
            model = stay_led(house, run)
            self.assertEqual(led_staying(house, run), model.told())
            self.assertEqual(charges(house, run), model.charges())
            again += max(model.begins) > 3
            ends += all(ended for _, ended in model.told())
            told = [(person, other, its_begin) for person, _, other, its_begin in charges(house, run)]
            self.assertEqual(len(set(told)), len(told))
            words = {word for sort in house[2] for row in sort for couple in row for word in couple}
            yields += "oust" not in words and told != []
            ousts += "oust" in words and told != []
            led_staying(house, run).clear()
            charges(house, run).append(None)
            self.assertEqual(charges(house, run), model.charges())
            self.assertEqual(led_staying(house, run), model.told())
        self.assertGreater(min(again, yields, ousts, ends), 10)

    def test_runs_that_do_not(self):
        draw = random.Random(706)
        seen = {}
        for house, programs in HALLS * 2:
            run = run_on(draw, house, programs, 60)
            model = stay_led(house, run)
            for call in (led_staying, charges):
                error = refusal(call, house, run)
                if isinstance(model, int):
                    self.assertEqual((error.__class__, error.index), (BadStep, model))
                    self.assertTrue(Stay.stays(stay_led(house, (programs, run[1][:model])), run[1][model]))
                    self.assertIsNone(refusal(call, house, (programs, run[1][:model])))
                else:
                    self.assertIsNone(error)
            told = isinstance(model, int)
            seen[told] = seen.get(told, 0) + 1
        self.assertGreater(min(seen.values()), 100, seen)

    def test_who_did_it_was_put_out_or_ended_since(self):
        # One is put out by other; it may begin again once other is out, ended; not while it goes on, or only begins.
        one, other, third = (0, ((0, 1), (0, 2))), (0, ((0, 1), (0, 2), "work")), (0, ((0, 2), "work"))
        programs = (one, other, third)
        ahead = (0, 1, 2, 2, 1, 0)
        self.assertEqual(led_staying(BOTH, (programs, ahead)), [(1, False)] * 3)
        self.assertEqual(charges(BOTH, (programs, ahead)), [(0, 1, 1, 1)])
        self.assertEqual(refusal(led_staying, BOTH, (programs, ahead + (0,))).index, 6)
        self.assertEqual(refusal(charges, BOTH, (programs, ahead + (0,))).index, 6)
        # Other asks for what the third one has, and is put out: then one may begin, other may not.
        out = ahead + (1,)
        self.assertEqual(led_staying(BOTH, (programs, out + (0,))), [(2, False), (1, False), (1, False)])
        self.assertEqual(refusal(led_staying, BOTH, (programs, out + (1,))).index, 7)
        self.assertEqual(refusal(led_staying, BOTH, (programs, out + (0, 1))).index, 8)
        self.assertEqual(led_staying(BOTH, (programs, out + (2, 1, 0)))[1:], [(2, False), (1, True)])
        self.assertEqual(charges(BOTH, (programs, out)), [(0, 1, 1, 1), (1, 1, 2, 1)])
        # The third one ends ahead of other's question: so other goes on to its end, and one may begin then.
        ends = ahead + (2, 1, 1)
        self.assertEqual(led_staying(BOTH, (programs, ends + (0,))), [(2, False), (1, True), (1, True)])
        self.assertEqual(refusal(led_staying, BOTH, (programs, ahead + (2, 1, 0))).index, 8)

    def test_who_is_ousted_stays_out(self):
        # Who ousts is the one that put out; it stays AT its deed.
        one, other = (0, ((0, 1), "work")), (0, ((0, 1), "work"))
        run = ((one, other), (0, 1, 0, 1))
        self.assertEqual(charges(OUSTS, run), [(0, 1, 1, 1)])
        self.assertEqual(refusal(led_staying, OUSTS, (run[0], run[1] + (0,))).index, 4)
        self.assertEqual(led_staying(OUSTS, (run[0], run[1] + (1, 1, 0))), [(2, False), (1, True)])

    def test_empty_runs(self):
        for house in drawn_houses(707, 5):
            self.assertEqual(led_staying(house, ((), ())), [])
            self.assertEqual(charges(house, ((), ())), [])
            self.assertEqual(led_staying(house, (((0, ("work",)),), ())), [(0, False)])

    def test_tight_runs(self):
        draw = random.Random(708)
        for house in drawn_houses(709, 150):
            run = tight_run(draw, house)
            model = stay_led(house, run)
            if isinstance(model, int):
                self.assertEqual(refusal(charges, house, run).index, model)
                run = (run[0], run[1][:model])
                model = stay_led(house, run)
            self.assertEqual(led_staying(house, run), model.told())
            self.assertEqual(charges(house, run), model.charges())


class TestPutsOut(unittest.TestCase):
    def test_by_ages(self):
        house = ((("a", True, 0),), ("s",), (((("wait", "yield"),),),))
        self.assertIs(puts_out(house, (0, 0), 1, 0), True)
        self.assertIs(puts_out(house, (0, 0), 0, 1), False)
        self.assertIs(puts_out(house, (0, 0), 0, 0), False)
        elder = ((("a", True, 0),), ("s",), (((("yield", "wait"),),),))
        self.assertIs(puts_out(elder, (0, 0), 0, 1), True)
        self.assertIs(puts_out(elder, (0, 0), 1, 0), False)

    def test_against_the_words(self):
        draw = random.Random(710)
        seen = set()
        for house in meek_houses(711, 150):
            crew = tuple(draw.randrange(len(house[0])) for _ in range(draw.randint(1, 8)))
            for one, other in itertools.product(range(len(crew)), repeat=2):
                wanted = model_puts_out(house, crew, one, other)
                self.assertIs(puts_out(house, crew, one, other), wanted)
                seen.add((wanted, one < other, one == other))
        self.assertEqual(len(seen), 5)

    def test_it_is_so_in_runs(self):
        # Who is put out in a run whose persons begin in their order can be put out by the one that did it.
        draw = random.Random(712)
        seen = {}
        for house in meek_houses(713, 120, renewing=False):
            crew = tuple(draw.randrange(len(house[0])) for _ in range(3))
            sorts = range(len(house[1]))
            locks = [(draw.choice(sorts), number) for number in range(2)]
            programs = tuple((kind, tuple(draw.sample(locks, 2))) for kind in crew)
            model = Stay(house, programs)
            for person in (0, 1, 2):
                model.step(person)
            for _ in range(60):
                able = [person for person in range(3) if model.can_step(person)]
                if able:
                    model.step(draw.choice(able))
            for person, _, other, _ in model.charges():
                self.assertIs(puts_out(house, crew, person, other), True)
                seen[person < other] = seen.get(person < other, 0) + 1
        self.assertGreater(min(seen.values()), 20)


class TestCrewRound(unittest.TestCase):
    def fewest(self, house, crew):
        """The fewest persons that go round, by trying all rows of them; None if there are none."""
        for many in range(2, len(crew) + 1):
            for row in itertools.permutations(range(len(crew)), many):
                if self.goes_round(house, crew, row):
                    return many
        return None

    def goes_round(self, house, crew, row):
        couples = zip(row, row[1:] + row[:1])
        return all(model_puts_out(house, crew, one, other) for one, other in couples)

    def test_against_all_rows(self):
        draw = random.Random(714)
        seen = {}
        houses = meek_houses(715, 250) + meek_houses(716, 150, words=("wait", "wait", "wait", "yield"), sorts=1)
        houses += meek_houses(717, 150, kinds=5, words=("wait",) * 7 + ("yield",), sorts=1)
        for house in houses:
            crew = tuple(draw.randrange(len(house[0])) for _ in range(draw.randint(1, 5)))
            found, many = crew_round(house, crew), self.fewest(house, crew)
            seen[many] = seen.get(many, 0) + 1
            if many is None:
                self.assertIsNone(found)
            else:
                self.assertIsInstance(found, tuple)
                self.assertEqual(len(found), many)
                self.assertTrue(self.goes_round(house, crew, found))
                self.assertEqual(found, crew_round(house, crew))
        self.assertLessEqual({None, 2, 3}, set(seen), seen)

    def test_long_rounds(self):
        # Person p can be put out by the next one alone, and the last one by the first.
        for many in (3, 4, 5):
            rows = [[["wait", "wait"] for _ in range(5)] for _ in range(5)]
            for kind in range(many):
                other = (kind + 1) % many
                rows[kind][other][0 if kind < other else 1] = "yield"
            judge = (tuple(tuple(tuple(couple) for couple in row) for row in rows),)
            house = (tuple(("abcde"[kind], True, kind) for kind in range(5)), ("s",), judge)
            found = crew_round(house, tuple(range(many)))
            self.assertEqual(sorted(found), list(range(many)))
            self.assertTrue(self.goes_round(house, tuple(range(many)), found))
            self.assertIsNone(crew_round(house, tuple(range(many - 1))))
            self.assertIsNone(crew_round(house, (0,)))

    def test_the_example(self):
        self.assertEqual(len(crew_round(BOTH, (0, 0, 0))), 2)
        self.assertIsNone(crew_round(BOTH, (0,)))


if __name__ == "__main__":
    unittest.main()
