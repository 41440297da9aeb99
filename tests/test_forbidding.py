"""[52]: what an order is good for."""

import itertools
import random
import unittest

from comesthrough.errors import NotMeek
from comesthrough.forbidding import greatest_orders, held_by_orders, least_forbidden, needless_couples
from comesthrough.orders import can_be_held_by, row_order
from tests.ordermodel import HOUSES, meek_houses, model_can_be_held_by, parted_houses, ruled_houses
from tests.samples import refusal

WAIT = ((((("wait", "wait"),),), ((("wait", "wait"),),)))
HOUSE = ((("k", True, 0),), ("s", "t"), WAIT)
ORDER = ((0, 0), (0, 1), (1, 0))
SMALL = (
    meek_houses(520, 25, kinds=1, sorts=2) + meek_houses(521, 15, kinds=2, sorts=2) + meek_houses(522, 20, sorts=1)
    + ruled_houses(523, 25) + parted_houses(530, 6)
)


def lots_of(things):
    return [lot for many in range(len(things) + 1) for lot in itertools.combinations(things, many)]


def couples_of(house):
    return tuple(itertools.product(range(len(house[1])), repeat=2))


def none_is_held(house, order, kinds):
    return not any(model_can_be_held_by(house, order, kind) for kind in kinds)


def wanted_forbidden(house, order, kinds):
    """What least_forbidden has to return, by a search of all lots of the order."""
    enough = [
        lot for lot in lots_of(order)
        if none_is_held(house, tuple(couple for couple in order if couple not in lot), kinds)
    ]
    return sorted(lot for lot in enough if not any(set(other) < set(lot) for other in enough))


def wanted_orders(house, kinds):
    """What greatest_orders has to return, by a search of all orders."""
    safe = [order for order in lots_of(couples_of(house)) if none_is_held(house, order, kinds)]
    return sorted(order for order in safe if not any(set(order) < set(other) for other in safe))


def drawn_kinds(draw, house):
    return tuple(kind for kind in range(len(house[0])) if draw.random() < 0.7)


class TestHeldByOrders(unittest.TestCase):
    def test_against_each_kind(self):
        seen = set()
        for house, order in HOUSES:
            kinds = range(len(house[0]))
            wanted = [kind for kind in kinds if model_can_be_held_by(house, order, kind)]
            self.assertEqual(held_by_orders(house, order), wanted)
            held_by_orders(house, order).append(None)
            self.assertEqual(held_by_orders(house, order), wanted)
            self.assertEqual(held_by_orders(house, ()), [])
            every = couples_of(house)
            self.assertEqual(held_by_orders(house, every), [kind for kind in kinds if can_be_held_by(house, every, kind)])
            seen.add((wanted == [], wanted == list(kinds)))
        self.assertEqual(seen, {(True, False), (False, True), (False, False)})

    def test_by_a_row_order_none(self):
        for house, _ in HOUSES[::3]:
            for many in range(len(house[1]) + 1):
                for row in itertools.permutations(range(len(house[1])), many):
                    self.assertEqual(held_by_orders(house, row_order(house, row)), [])

    def test_with_fewer_couples_never_more(self):
        for house, order in HOUSES:
            held = held_by_orders(house, order)
            for at in range(len(order)):
                self.assertLessEqual(set(held_by_orders(house, order[:at] + order[at + 1:])), set(held))


class TestLeastForbidden(unittest.TestCase):
    def test_the_example(self):
        self.assertEqual(held_by_orders(HOUSE, ORDER), [0])
        self.assertEqual(least_forbidden(HOUSE, ORDER, (0,)), [((0, 0), (0, 1)), ((0, 0), (1, 0))])
        self.assertEqual(greatest_orders(HOUSE, (0,)), [((0, 1),), ((1, 0),)])
        self.assertEqual(needless_couples(HOUSE, ORDER, 0), [])

    def test_against_a_search(self):
        draw = random.Random(524)
        seen = {}
        for house, order in SMALL:
            for kinds in {drawn_kinds(draw, house), (), tuple(range(len(house[0])))}:
                for lot in (order, couples_of(house)):
                    wanted = wanted_forbidden(house, lot, kinds)
                    self.assertEqual(least_forbidden(house, lot, kinds), wanted)
                    told = (len(wanted) > 1, max(map(len, wanted)) > 1)
                    seen[told] = seen.get(told, 0) + 1
                    least_forbidden(house, lot, kinds).clear()
                    self.assertEqual(least_forbidden(house, lot, kinds), wanted)
        self.assertGreater(min(seen.get(told, 0) for told in itertools.product((True, False), repeat=2)), 5, seen)

    def test_three_sorts(self):
        for house, order in meek_houses(525, 6, kinds=2, sorts=3) + meek_houses(526, 4, kinds=5, sorts=3):
            for kinds in ((0,), tuple(range(len(house[0])))):
                self.assertEqual(least_forbidden(house, order, kinds), wanted_forbidden(house, order, kinds))

    def test_no_kinds_and_nobody_held(self):
        for house, order in HOUSES[::5]:
            self.assertEqual(least_forbidden(house, order, ()), [()])
            self.assertEqual(least_forbidden(house, (), tuple(range(len(house[0])))), [()])
            self.assertEqual(greatest_orders(house, ()), [couples_of(house)])
            for kind in range(len(house[0])):
                wanted = least_forbidden(house, order, (kind,)) == [()]
                self.assertIs(wanted, not model_can_be_held_by(house, order, kind))

    def test_ascending(self):
        for house, order in HOUSES[::6]:
            kinds = tuple(range(len(house[0])))
            for lots in (least_forbidden(house, order, kinds), greatest_orders(house, kinds)):
                self.assertEqual(lots, sorted(set(lots)))
                for lot in lots:
                    self.assertIsInstance(lot, tuple)
                    self.assertEqual(list(lot), sorted(set(lot)))


class TestGreatestOrders(unittest.TestCase):
    def test_against_a_search(self):
        draw = random.Random(527)
        seen = set()
        for house, _ in SMALL:
            for kinds in {drawn_kinds(draw, house), tuple(range(len(house[0])))}:
                wanted = wanted_orders(house, kinds)
                self.assertEqual(greatest_orders(house, kinds), wanted)
                seen.add((len(house[1]), len(wanted) > 1))
        self.assertLessEqual({(1, False), (2, False), (2, True), (3, True)}, seen)

    def test_three_sorts(self):
        for house, _ in meek_houses(528, 5, kinds=1, sorts=3) + meek_houses(529, 3, kinds=2, sorts=3):
            kinds = tuple(range(len(house[0])))
            self.assertEqual(greatest_orders(house, kinds), wanted_orders(house, kinds))

    def test_waits_in_three_sorts(self):
        # Just the rows of all three sorts are greatest where all wait.
        house = (HOUSE[0], ("s", "t", "u"), WAIT[:1] * 3)
        rows = [row_order(house, row) for row in itertools.permutations(range(3))]
        self.assertEqual(greatest_orders(house, (0,)), sorted(rows))


class TestNeedless(unittest.TestCase):
    def test_against_least_lots(self):
        some = 0
        for house, order in SMALL + HOUSES[::8]:
            for kind in range(len(house[0])):
                needed = {couple for lot in least_forbidden(house, order, (kind,)) for couple in lot}
                wanted = [couple for couple in order if couple not in needed]
                self.assertEqual(needless_couples(house, order, kind), wanted)
                some += 0 < len(wanted) < len(order)
        self.assertGreater(some, 20)

    def test_all_are_needless_where_nobody_is_held(self):
        self.assertEqual(needless_couples(HOUSE, ((0, 1),), 0), [(0, 1)])
        self.assertEqual(needless_couples(HOUSE, (), 0), [])
        self.assertEqual(needless_couples(HOUSE, ((0, 0), (0, 1)), 0), [(0, 1)])


class TestNotMeek(unittest.TestCase):
    def test_not_meek(self):
        ousts = (HOUSE[0], HOUSE[1], (WAIT[0], ((("oust", "wait"),),)))
        rises = ((("a", True, 1), ("b", True, 1)), ("s",), ((((("wait", "wait"),) * 2,) * 2),))
        for house in (ousts, rises):
            for call, told in (
                (held_by_orders, (((0, 0),),)), (held_by_orders, ((),)), (least_forbidden, ((), ())),
                (least_forbidden, (((0, 0),), (0,))), (greatest_orders, ((0,),)), (greatest_orders, ((),)),
                (needless_couples, (((0, 0),), 0)), (needless_couples, ((), 0)),
            ):
                self.assertIsInstance(refusal(call, house, *told), NotMeek, call)


if __name__ == "__main__":
    unittest.main()
