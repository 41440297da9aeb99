"""[65]: how often persons begin who stay out."""

import itertools
import random
import unittest

from comesthrough.begins import busiest_run, is_possible, most_begins
from comesthrough.errors import Forgets, GoesRound, NotMeek
from comesthrough.forms import is_program
from comesthrough.houses import is_meek
from comesthrough.runs import is_run
from comesthrough.staying import crew_round, led_staying
from tests.samples import drawn_houses, refusal
from tests.staymodel import Stay, counts_of_runs, model_masters, model_most, model_puts_out, stay_led

KEPT = ((("a", True, 0),), ("s",), (((("wait", "yield"),),),))
BOTH = ((("a", True, 0),), ("s",), (((("yield", "yield"),),),))
CALLS = ((most_begins, ()), (busiest_run, ()), (is_possible, ([1] * 8,)))


def house_of(rows):
    """A house of one sort in which the words of each couple of kinds are told, and all keep their ages."""
    kinds = tuple(("abcde"[kind], True, kind) for kind in range(len(rows)))
    return (kinds, ("s",), (tuple(tuple(tuple(couple) for couple in row) for row in rows),))


def drawn_crews(seed, many, most=6):
    """Couples of a meek house that keeps all ages and a crew of it that goes round nowhere, of at most so many."""
    draw = random.Random(seed)
    found = []
    while len(found) < many:
        words = draw.choice([("wait", "yield"), ("wait", "wait", "wait", "yield"), ("wait",) * 6 + ("yield",)])
        house = drawn_houses(draw.random(), 1, words=words, rising=False, renewing=False, sorts=draw.choice([1, 1, 2, 3]))[0]
        crew = tuple(draw.randrange(len(house[0])) for _ in range(draw.randint(1, most)))
        if draw.random() < 0.3:
            # Only younger ones yield, or only elder ones: so it goes round nowhere, but is dense.
            side = draw.choice([0, 1])
            house = house[:2] + (tuple(
                tuple(tuple(tuple("wait" if at == side else draw.choice(words) for at in (0, 1)) for _ in row) for row in sort)
                for sort in house[2]
            ),)
        if not model_goes_round(house, crew):
            found.append((house, crew))
    return found


def model_goes_round(house, crew):
    left = list(range(len(crew)))
    while True:
        free = [one for one in left if not any(model_puts_out(house, crew, one, other) for other in left)]
        if not free:
            return left != []
        left = [one for one in left if one not in free]


CREWS = drawn_crews(720, 250) + drawn_crews(721, 30, 8)


class TestErrors(unittest.TestCase):
    def test_all_three_in_order(self):
        draw = random.Random(722)
        seen = {}
        houses = drawn_houses(723, 80) + drawn_houses(724, 150, words=("wait", "yield"), rising=False)
        houses += drawn_houses(725, 80, words=("wait", "wait", "wait", "yield"), rising=False, renewing=False)
        houses += drawn_houses(726, 60, words=("wait", "yield"), renewing=False)
        for house in houses:
            crew = tuple(draw.randrange(len(house[0])) for _ in range(draw.randint(1, 5)))
            words = {word for sort in house[2] for row in sort for couple in row for word in couple}
            forgetting = [kind for kind in crew if not house[0][kind][1]]
            if "oust" in words or any(told[2] != kind for kind, told in enumerate(house[0])):
                wanted = (NotMeek, ())
            elif forgetting:
                wanted = (Forgets, (min(forgetting),))
            elif model_goes_round(house, crew):
                wanted = (GoesRound, (crew_round(house, crew),))
            else:
                wanted = (None, ())
            for call, more in CALLS:
                error = refusal(call, house, crew, *[thing[:len(crew)] for thing in more])
                fields = {NotMeek: (), Forgets: ("kind",), GoesRound: ("persons",)}.get(error.__class__, ())
                told = tuple(getattr(error, name) for name in fields)
                self.assertEqual((error and error.__class__, told), wanted)
            seen[wanted[0]] = seen.get(wanted[0], 0) + 1
        self.assertGreater(min(seen.values()), 15, seen)
        self.assertEqual(len(seen), 4)

    def test_not_meek_first(self):
        ousts = ((("a", False, 0), ("b", True, 1)), ("s",), (((("oust", "yield"),) * 2, (("yield", "yield"),) * 2),))
        rises = ((("a", False, 1), ("b", True, 1)), ("s",), (((("yield", "yield"),) * 2,) * 2,))
        forgets = ((("a", True, 0), ("b", False, 1), ("c", False, 2)), ("s",), (((("yield", "yield"),) * 3,) * 3,))
        for call, more in CALLS:
            for house in (ousts, rises):
                self.assertEqual(refusal(call, house, (0, 0), *[thing[:2] for thing in more]).__class__, NotMeek)
            for crew, kind in (((2, 1, 0), 1), ((0, 2, 2), 2), ((1, 1, 1), 1)):
                error = refusal(call, forgets, crew, *[thing[:3] for thing in more])
                self.assertEqual((error.__class__, error.kind), (Forgets, kind))
            # Kinds of the house that are not in the crew may forget; the crew goes round then.
            error = refusal(call, forgets, (0, 0, 0), *[thing[:3] for thing in more])
            self.assertEqual((error.__class__, len(error.persons)), (GoesRound, 2))
            self.assertIsNone(refusal(call, forgets, (0,), *[thing[:1] for thing in more]))

    def test_wrong_counts_of_a_wrong_crew(self):
        self.assertEqual(refusal(is_possible, BOTH, (0, 0), [0, 0]).__class__, GoesRound)
        self.assertEqual(refusal(is_possible, BOTH, (0, 0), [7, -1]).__class__, GoesRound)


class TestMostBegins(unittest.TestCase):
    def test_the_example(self):
        self.assertEqual(most_begins(KEPT, (0, 0, 0, 0)), [1, 2, 4, 8])
        elder = ((("a", True, 0),), ("s",), (((("yield", "wait"),),),))
        self.assertEqual(most_begins(elder, (0, 0, 0, 0)), [8, 4, 2, 1])
        self.assertEqual(most_begins(KEPT, (0,) * 8), [1, 2, 4, 8, 16, 32, 64, 128])
        waits = ((("a", True, 0),), ("s",), (((("wait", "wait"),),),))
        self.assertEqual(most_begins(waits, (0, 0, 0)), [1, 1, 1])

    def test_against_the_sums(self):
        for house, crew in CREWS:
            most = most_begins(house, crew)
            self.assertEqual(most, model_most(house, crew))
            most_begins(house, crew).append(0)
            self.assertEqual(most_begins(house, crew), most)
        self.assertGreater(len({tuple(most_begins(house, crew)) for house, crew in CREWS}), 60)

    def test_no_run_has_more(self):
        # Programs that want the same locks, led with the rule by whoever comes, after all have begun in their order.
        draw = random.Random(727)
        least = 0
        for house, crew in CREWS * 3:
            sorts = range(len(house[1]))
            locks = [(draw.choice(sorts), number) for number in range(draw.randint(1, 4))]
            model = Stay(house, tuple((kind, tuple(draw.sample(locks, len(locks)))) for kind in crew))
            for person in range(len(crew)):
                model.step(person)
            for _ in range(150):
                able = [person for person in range(len(crew)) if model.can_step(person)]
                if able:
                    model.step(draw.choice(able))
            most = most_begins(house, crew)
            self.assertTrue(all(many <= limit for many, limit in zip(model.begins, most)))
            least += any(1 < many == limit for many, limit in zip(model.begins, most))
        self.assertGreater(least, 50)


class TestBusiestRun(unittest.TestCase):
    def test_the_example(self):
        self.assertEqual(led_staying(KEPT, busiest_run(KEPT, (0, 0, 0))), [(1, True), (2, True), (4, True)])

    def test_against_the_rule(self):
        for house, crew in CREWS:
            run = busiest_run(house, crew)
            programs, row = run
            self.assertIs(is_run(house, run), True)
            self.assertTrue(all(is_program(house, program) for program in programs))
            self.assertEqual(tuple(program[0] for program in programs), crew)
            # Each one's first step, which is its begin, comes behind those of all ahead of it.
            firsts = [row.index(person) for person in range(len(crew))]
            self.assertEqual(firsts, sorted(firsts))
            model = stay_led(house, run)
            self.assertEqual(model.told(), [(many, True) for many in model_most(house, crew)])
            self.assertEqual(led_staying(house, run), model.told())
            self.assertEqual(run, busiest_run(house, crew))

    def test_eight_in_a_row(self):
        for words in (("wait", "yield"), ("yield", "wait")):
            house = ((("a", True, 0),), ("s", "t"), (((("wait", "wait"),),), ((words,),)))
            model = stay_led(house, busiest_run(house, (0,) * 8))
            self.assertEqual(sorted(model.told()), [(2 ** person, True) for person in range(8)])

    def test_one_alone(self):
        for house in (KEPT, BOTH):
            self.assertEqual(stay_led(house, busiest_run(house, (0,))).told(), [(1, True)])


class TestIsPossible(unittest.TestCase):
    def test_the_example(self):
        self.assertIs(is_possible(KEPT, (0, 0, 0), [1, 1, 3]), True)
        self.assertIs(is_possible(KEPT, (0, 0, 0), [1, 1, 4]), False)

    def test_against_the_sums(self):
        draw = random.Random(728)
        seen = {True: 0, False: 0}
        for house, crew in CREWS:
            most = most_begins(house, crew)
            tries = [most, [1] * len(crew)]
            tries += [[draw.randint(1, limit) for limit in most] for _ in range(12)]
            for at in range(len(crew)):
                for many in (0, -1, -(10 ** 39), most[at] + 1, 10 ** 39):
                    tries.append([1] * at + [many] + [1] * (len(crew) - at - 1))
                    tries.append(most[:at] + [many] + most[at + 1:])
            for counts in tries:
                wanted = all(
                    1 <= counts[one] <= 1 + sum(counts[other] for other in model_masters(house, crew, one))
                    for one in range(len(crew))
                )
                kept = list(counts)
                self.assertIs(is_possible(house, crew, counts), wanted)
                self.assertEqual(counts, kept)
                seen[wanted] += 1
            self.assertIs(is_possible(house, crew, most), True)
            self.assertIs(is_possible(house, crew, [1] * len(crew)), True)
        self.assertGreater(min(seen.values()), 1000, seen)

    def test_against_all_runs_of_small_crews(self):
        # The programs of busiest_run, led in all ways: so all counts come about that can, and no other ones.
        seen = {}
        done = 0
        for house, crew in drawn_crews(729, 60, 3) + drawn_crews(730, 25, 4) + [(KEPT, (0, 0, 0))]:
            found = counts_of_runs(house, busiest_run(house, crew)[0], 3000)
            most = most_begins(house, crew)
            if found is not None:
                ends, ever = found
                for counts in itertools.product(*[range(limit + 2) for limit in most]):
                    self.assertIs(is_possible(house, crew, list(counts)), counts in ends)
                    seen[counts in ends] = seen.get(counts in ends, 0) + 1
                self.assertEqual([max(counts) for counts in zip(*ever)], most)
                done += len(crew) > 2
        self.assertGreater(done, 30)
        self.assertGreater(min(seen.values()), 80, seen)

    def test_other_programs_bring_no_other_counts(self):
        draw = random.Random(731)
        done = 0
        for house, crew in drawn_crews(732, 120, 3):
            sorts = range(len(house[1]))
            locks = [(draw.choice(sorts), number) for number in range(3)]
            programs = tuple((kind, tuple(draw.sample(locks, draw.randint(1, 3)))) for kind in crew)
            found = counts_of_runs(house, programs, 1500)
            for counts in found[0] if found else ():
                self.assertIs(is_possible(house, crew, list(counts)), True)
                done += max(counts) > 1
        self.assertGreater(done, 20)

    def test_houses_stay_meek(self):
        self.assertTrue(all(is_meek(house) for house, _ in CREWS))


if __name__ == "__main__":
    unittest.main()
