"""[51]: papers that show of a kind that it comes through, whatever ordered programs do."""

import itertools
import random
import unittest

from comesthrough.errors import NotMeek
from comesthrough.hall import Hall
from comesthrough.orderpapers import is_order_paper, order_paper
from comesthrough.orders import can_be_held_by
from tests.model import model_moves
from tests.ordermodel import HOUSES, model_can_be_held_by, model_order_edges, model_spots
from tests.samples import junk, refusal

WAIT = ((((("wait", "wait"),),), ((("wait", "wait"),),)))
HOUSE = ((("k", True, 0),), ("s", "t"), WAIT)
OUSTS = (HOUSE[0], HOUSE[1], (WAIT[0], ((("wait", "oust"),),)))
RISES = ((("a", True, 1), ("b", True, 1)), ("s",), ((((("wait", "wait"),) * 2,) * 2),))
RANKS = {("stand", 0, -1): 2, ("stand", 0, 0): 1, ("stand", 0, 1): 0, ("anew", 0, -1): 0}


def broken_rules(house, order, kind, ranks):
    """What keeps a dict from spots to integers from being an order paper, by the words of [51]."""
    broken = {"first"} if not {("stand", kind, -1), ("anew", kind, -1)} <= set(ranks) else set()
    words = {}
    for one, other, word in model_order_edges(house, order):
        if one in ranks and other not in ranks:
            broken.add("closed")
        elif one in ranks and ranks[other] > ranks[one]:
            broken.add("greater")
        elif one in ranks and ranks[other] == ranks[one]:
            words.setdefault(ranks[one], set()).add(word)
            if word == "younger" and (model_moves(house, one) or model_moves(house, other)):
                broken.add("moving")
    return broken | ({"both"} if any(len(lot) == 2 for lot in words.values()) else set())


def one_kind(keeps, elder, younger, sorts=1):
    return ((("a", keeps, 0),), ("s", "t", "u")[:sorts], ((((elder, younger),),),) * sorts)


class TestOrderPaper(unittest.TestCase):
    def test_order_paper(self):
        seen = {True: 0, False: 0}
        for house, order in HOUSES:
            for kind in range(len(house[0])):
                held = model_can_be_held_by(house, order, kind)
                paper = order_paper(house, order, kind)
                self.assertIs(paper is None, held)
                self.assertIs(can_be_held_by(house, order, kind), held)
                seen[held] += 1
                if paper is None:
                    continue
                self.assertIsInstance(paper, dict)
                self.assertEqual(broken_rules(house, order, kind, paper), set())
                self.assertIs(is_order_paper(house, order, kind, paper), True)
                self.assertEqual(list(paper), sorted(paper))
                self.assertLessEqual(set(paper), set(model_spots(house)))
                self.assertTrue(all(type(rank) is int for rank in paper.values()))
                wanted = dict(paper)
                paper.clear()
                self.assertEqual(order_paper(house, order, kind), wanted)
        self.assertGreater(min(seen.values()), 200)

    def test_every_order_of_a_house(self):
        for keeps, elder, younger in itertools.product((True, False), ("wait", "yield"), ("wait", "yield")):
            house = one_kind(keeps, elder, younger, 2)
            couples = list(itertools.product(range(2), repeat=2))
            for many in range(5):
                for order in itertools.combinations(couples, many):
                    paper = order_paper(house, order, 0)
                    self.assertIs(paper is None, model_can_be_held_by(house, order, 0))
                    self.assertTrue(paper is None or is_order_paper(house, order, 0, paper))

    def test_not_meek(self):
        for house in (OUSTS, RISES):
            for order in ((), ((0, 0),)):
                self.assertIsInstance(refusal(order_paper, house, order, 0), NotMeek)
                for thing in (None, {}, RANKS, [], True):
                    self.assertIsInstance(refusal(is_order_paper, house, order, 0, thing), NotMeek)


class TestIsOrderPaper(unittest.TestCase):
    def test_the_example(self):
        self.assertIs(is_order_paper(HOUSE, ((0, 1),), 0, RANKS), True)
        self.assertIs(is_order_paper(HOUSE, ((0, 0), (0, 1)), 0, RANKS), False)

    def test_changed_papers(self):
        draw = random.Random(510)
        seen = {}
        for house, order in HOUSES:
            for kind in range(len(house[0])):
                paper = order_paper(house, order, kind)
                if paper is None:
                    continue
                spots = model_spots(house)
                for _ in range(12):
                    ranks = dict(paper)
                    for spot in draw.sample(spots, min(len(spots), draw.randint(0, 2))):
                        ranks[spot] = draw.choice([draw.randint(-1, 4), draw.choice(list(paper.values()))])
                    if draw.random() < 0.4:
                        del ranks[draw.choice(sorted(ranks))]
                    told = draw.random()
                    if told < 0.4:
                        # All spots of one form, or all of them, have one integer then.
                        ranks = {spot: 0 if spot[0] == "stand" or told < 0.1 else 1 for spot in ranks}
                    broken = broken_rules(house, order, kind, ranks)
                    self.assertIs(is_order_paper(house, order, kind, ranks), not broken)
                    for rule in broken if len(broken) == 1 else {"several"} if broken else {"none"}:
                        seen[rule] = seen.get(rule, 0) + 1
        self.assertEqual(sorted(seen), ["both", "closed", "first", "greater", "moving", "none", "several"])
        self.assertGreater(min(seen.values()), 1, seen)

    def test_papers_of_other_orders_and_kinds(self):
        draw = random.Random(511)
        seen = {True: 0, False: 0}
        for house, order in HOUSES:
            couples = list(itertools.product(range(len(house[1])), repeat=2))
            for kind in range(len(house[0])):
                paper = order_paper(house, order, kind)
                if paper is not None:
                    for other in range(len(house[0])):
                        many = tuple(couple for couple in couples if draw.random() < 0.7)
                        wanted = not broken_rules(house, many, other, paper)
                        self.assertIs(is_order_paper(house, many, other, paper), wanted)
                        seen[wanted] += 1
        self.assertGreater(min(seen.values()), 30)

    def test_keys_in_another_order(self):
        for keys in itertools.permutations(RANKS):
            self.assertIs(is_order_paper(HOUSE, ((0, 1),), 0, {key: RANKS[key] for key in keys}), True)

    def test_both_words_and_moving_spots_of_one_integer(self):
        # Each couple of a style, whether it keeps its age, and whether all spots may have the same integer.
        for keeps, elder, younger, wanted in (
            (True, "wait", "yield", False), (True, "wait", "wait", False), (True, "yield", "yield", False),
            (True, "yield", "wait", True), (False, "yield", "wait", False), (False, "wait", "yield", False),
        ):
            house = one_kind(keeps, elder, younger)
            ranks = {spot: 5 for spot in model_spots(house)}
            told = broken_rules(house, ((0, 0),), 0, ranks)
            self.assertIs(is_order_paper(house, ((0, 0),), 0, ranks), not told)
            alone = {spot: 5 if spot[0] == "stand" else 4 for spot in model_spots(house)}
            self.assertIs(is_order_paper(house, ((0, 0),), 0, alone), not broken_rules(house, ((0, 0),), 0, alone))
        house = one_kind(True, "wait", "wait")
        ranks = {("anew", 0, -1): 0, ("stand", 0, -1): 1, ("stand", 0, 0): 0}
        self.assertIs(is_order_paper(house, (), 0, ranks), True)
        self.assertIs(is_order_paper(house, (), 0, {**ranks, ("stand", 0, -1): 0}), False)
        self.assertIs(is_order_paper(house, (), 0, {**ranks, ("stand", 0, -1): -1}), False)
        self.assertIs(is_order_paper(house, ((0, 0),), 0, ranks), False)
        moving = one_kind(False, "yield", "yield")
        ranks = {("anew", 0, -1): 1, ("anew", 0, 0): 0, ("stand", 0, -1): 0, ("stand", 0, 0): 0}
        self.assertIs(is_order_paper(moving, (), 0, ranks), True)
        self.assertIs(is_order_paper(moving, (), 0, {**ranks, ("anew", 0, 0): 1}), False)
        self.assertIs(is_order_paper(moving, ((0, 0),), 0, ranks), False)

    def test_spots_that_are_none(self):
        for spot in (
            ("stand", 1, -1), ("stand", 0, 2), ("stand", 0, -2), ("anew", -1, 0), ("wait", 0, 0), ("stand", 0), (0, 0, 0),
            ("stand", True, 0), ("stand", False, 0), ("stand", 0, True), ("stand", 0, False), ("anew", 0, None), "stand",
            ("stand", 0, 0, 0), ("stand", "0", 0), None, True, 0, (), (("stand", 0, 0),), ("stand", 10 ** 39, 0), ("", 0, 0),
            ((), 0, 0), (None, 0, 0), ("stand", (0,), 0),
        ):
            ranks = {key: RANKS[key] for key in RANKS if key != spot}
            ranks[spot] = 0
            self.assertIs(is_order_paper(HOUSE, ((0, 1),), 0, ranks), False, spot)
        for key in RANKS:
            for at, other in ((1, False), (2, True if key[2] == 1 else False)):
                spoilt = key[:at] + (other,) + key[at + 1:]
                ranks = {one: RANKS[one] for one in RANKS if one != key}
                ranks[spoilt] = RANKS[key]
                self.assertIs(is_order_paper(HOUSE, ((0, 1),), 0, ranks), False, spoilt)

    def test_ranks_that_are_none(self):
        for key in RANKS:
            for rank in (True, False, None, "1", (1,), [1], {}, "", Hall(HOUSE)):
                self.assertIs(is_order_paper(HOUSE, ((0, 1),), 0, {**RANKS, key: rank}), False)
            for rank in (10 ** 39, -(10 ** 39), 3):
                wanted = not broken_rules(HOUSE, ((0, 1),), 0, {**RANKS, key: rank})
                self.assertIs(is_order_paper(HOUSE, ((0, 1),), 0, {**RANKS, key: rank}), wanted)
            self.assertIs(is_order_paper(HOUSE, ((0, 1),), 0, {one: RANKS[one] for one in RANKS if one != key}), False)

    def test_any_value(self):
        for thing in junk() + [Hall(HOUSE), list(RANKS), [RANKS], tuple(RANKS.items()), (RANKS,), {0: RANKS}]:
            self.assertIs(is_order_paper(HOUSE, ((0, 1),), 0, thing), False, thing)


if __name__ == "__main__":
    unittest.main()
