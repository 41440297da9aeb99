"""[2] and [16]: what a value is."""

import random
import unittest

from comesthrough.forms import (
    is_house, is_integer, is_kind, is_lock, is_name, is_place, is_program, is_word,
)
from tests.samples import (
    changed_leaves, changed_tuples, drawn_houses, drawn_program, junk, nested, nested_list, spoilt_leaf, spoilt_tuples,
)

HOUSE = (
    (("a", False, 1), ("b", True, 1), ("c", True, 2)),
    ("s", "a"),
    (
        ((("wait", "yield"), ("oust", "yield"), ("wait", "wait")),) * 3,
        ((("oust", "oust"), ("oust", "yield"), ("wait", "yield")),) * 3,
    ),
)


def house_of(names, sorts=("s",), rises=None):
    """A house of kinds with these names in which all wait."""
    rises = rises or range(len(names))
    judge = ((((("wait", "wait"),) * len(names)),) * len(names),) * len(sorts)
    return (tuple((name, True, rise) for name, rise in zip(names, rises)), tuple(sorts), judge)


class Telling(unittest.TestCase):
    def yes(self, call, *told):
        self.assertIs(call(*told), True, told)

    def no(self, call, *told):
        self.assertIs(call(*told), False, told)


class TestSmall(Telling):
    def test_integers(self):
        for thing in (0, 1, -1, 7, 10 ** 39, -(10 ** 39), 10 ** 40):
            self.yes(is_integer, thing)
        for thing in (True, False, None, "1", 1.0, (1,), [1], {1: 1}, "", ()):
            self.no(is_integer, thing)

    def test_names(self):
        for thing in ("a", "z", "m", "abcdefgh", "zzzzzzzz", "work", "wait"):
            self.yes(is_name, thing)
        for thing in ("", "abcdefghi", "A", "aB", "a1", "1", "a b", " a", "a ", "a\n", "\n", "`", "{", "a_", "a-b", "~"):
            self.no(is_name, thing)
        for thing in (None, True, 0, ("a",), ["a"], ["a", "b"], {"a": 1}, b"a"):
            self.no(is_name, thing)

    def test_words(self):
        for thing in ("wait", "yield", "oust"):
            self.yes(is_word, thing)
        for thing in ("", "Wait", "WAIT", "wait ", " wait", "waits", "wai", "wait\n", "wait yield", "work", "elder"):
            self.no(is_word, thing)
        for thing in (None, True, 0, ("wait",), ["wait"], {"wait": 1}):
            self.no(is_word, thing)

    def test_kinds(self):
        for thing in (("a", True, 0), ("abcdefgh", False, 4), ("b", True, 5), ("b", True, 10 ** 39)):
            self.yes(is_kind, thing)
        for thing in (
            ["a", True, 0], ("a", True), ("a", True, 0, 0), ("a", 1, 0), ("a", 0, 0), ("a", None, 0), ("a", True, True),
            ("a", True, False), ("a", True, -1), ("a", True, "0"), ("A", True, 0), ("", True, 0), (None, True, 0),
            ("abcdefghi", True, 0), (("a",), True, 0), ("a", True, None), ("a", True, (0,)), (), "a",
        ):
            self.no(is_kind, thing)


class TestHouse(Telling):
    def test_houses(self):
        self.yes(is_house, HOUSE)
        for many in range(1, 6):
            for sorts in (("s",), ("s", "t"), ("s", "t", "u")):
                self.yes(is_house, house_of("abcdefgh"[:many], sorts))
        for house in drawn_houses(1, 100):
            self.yes(is_house, house)

    def test_how_many(self):
        self.no(is_house, house_of("abcdef"))
        self.no(is_house, house_of("ab", ("s", "t", "u", "v")))
        self.no(is_house, house_of(""))
        self.no(is_house, house_of("ab", ()))
        self.no(is_house, ((), ("s",), ((),)))

    def test_names_once(self):
        self.no(is_house, house_of("aba"))
        self.no(is_house, house_of("ab", ("s", "t", "s")))
        self.yes(is_house, house_of("ab", ("a", "b")))

    def test_rises(self):
        self.yes(is_house, house_of("abc", rises=[2, 1, 2]))
        self.yes(is_house, house_of("abc", rises=[1, 2, 2]))
        for rises in ([0, 0, 2], [0, 1, 1], [0, 1, 0], [3, 1, 2], [0, 1, 3], [0, 1, -1], [-1, 1, 2], [False, 1, 2]):
            self.no(is_house, house_of("abc", rises=rises))
        self.no(is_house, house_of("abc", rises=[0, True, 2]))

    def test_each_tuple(self):
        for thing in changed_tuples(HOUSE, spoilt_tuples):
            self.no(is_house, thing)

    def test_each_leaf(self):
        for thing in changed_leaves(HOUSE, spoilt_leaf):
            self.no(is_house, thing)

    def test_judge_of_another_house(self):
        small, great = house_of("ab"), house_of("abc")
        self.no(is_house, (small[0], small[1], great[2]))
        self.no(is_house, (great[0], great[1], small[2]))
        self.no(is_house, (small[0], ("s", "t"), small[2]))


class TestOfHouse(Telling):
    def test_locks(self):
        for thing in ((0, 0), (1, 0), (1, 10 ** 39), (0, 10 ** 50)):
            self.yes(is_lock, HOUSE, thing)
        for thing in (
            (2, 0), (-1, 0), (0, -1), (True, 0), (False, 0), (0, True), (0, False), [0, 0], (0,), (0, 0, 0), (), "work",
            ("s", 0), (0, "0"), (0, None), ((0, 0),), (0, (0,)), (0, -(10 ** 39)), {0: 0}, None,
        ):
            self.no(is_lock, HOUSE, thing)

    def test_programs(self):
        for thing in (
            (0, ("work",)), (2, ((1, 7),)), (1, ("work", "work", (0, 1), (1, 1), "work")),
            (0, tuple((0, number) for number in range(40))), (0, ((0, 10 ** 39),)),
        ):
            self.yes(is_program, HOUSE, thing)
        for thing in (
            (3, ("work",)), (-1, ("work",)), (True, ("work",)), (0, ()), (0, []), (0, ["work"]), [0, ("work",)], (0,),
            (0, ("work",), 0), (0, ("Work",)), (0, ("work ",)), (0, "work"), (0, ((0, 1), (1, 1), (0, 1))),
            (0, ((0, 1), (0, True))), (0, ((2, 1),)), (0, ((0, -1),)), (0, ([0, 1],)), (0, ((0, 1, 2),)),
            (0, (None,)), (0, ("work", {})), (0, ([],)), ("a", ("work",)), None, (0, (("work",),)), (0, ((0, 1), [])),
        ):
            self.no(is_program, HOUSE, thing)

    def test_parts_of_programs(self):
        program = (1, ((0, 1), "work", (1, 4)))
        self.yes(is_program, HOUSE, program)
        for thing in changed_leaves(program, spoilt_leaf):
            self.no(is_program, HOUSE, thing)
        for thing in changed_tuples(program, lambda part: [list(part), part + (0,), part + ((),), (), None, (part,)]):
            self.no(is_program, HOUSE, thing)

    def test_drawn_programs(self):
        draw = random.Random(2)
        for house in drawn_houses(3, 50):
            self.yes(is_program, house, drawn_program(draw, house))

    def test_places(self):
        for sort in range(-1, 4):
            for asker in range(-1, 5):
                for holder in range(-1, 5):
                    for side in range(-1, 3):
                        right = sort in (0, 1) and 0 <= asker <= 2 and 0 <= holder <= 2 and side in (0, 1)
                        self.assertIs(is_place(HOUSE, (sort, asker, holder, side)), right)
        for thing in ([0, 0, 0, 0], (0, 0, 0), (0, 0, 0, 0, 0), (), None):
            self.no(is_place, HOUSE, thing)
        for thing in changed_leaves((1, 1, 1, 1), spoilt_leaf):
            self.no(is_place, HOUSE, thing)


class TestAnyValue(Telling):
    def test_what_is_told_is_a_truth(self):
        calls = [is_integer, is_name, is_word, is_kind, is_house]
        of_house = [is_lock, is_program, is_place]
        for thing in junk() + [nested(20, "wait"), nested_list(20), {"a": nested_list(18)}, 10 ** 40, "a" * 6000]:
            for call in calls:
                self.assertIn(call(thing), (True, False))
                self.assertIsInstance(call(thing), bool)
            for call in of_house:
                self.assertIsInstance(call(HOUSE, thing), bool)

    def test_junk_in_each_place(self):
        for whole in ((0, ((0, 1), "work")), (0, 1), (0, 1, 0, 1), HOUSE):
            for thing in changed_leaves(whole, lambda leaf: [None, [], {}, nested_list(20), nested(20, 0)]):
                for call in (is_lock, is_program, is_place):
                    self.no(call, HOUSE, thing)
                self.no(is_house, thing)


if __name__ == "__main__":
    unittest.main()
