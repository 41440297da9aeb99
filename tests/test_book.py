"""[69]: a book of a house and its wishes."""

import random
import unittest

from comesthrough.book import Book
from comesthrough.errors import NotKept, Nothing, Taken, TooFew, TooMany, Wrong
from comesthrough.forms import is_house, is_name, is_place, is_word
from comesthrough.hall import Hall
from comesthrough.held import can_be_held
from comesthrough.houses import is_meek, with_keeps, with_kind, with_rise, with_word, without_kind
from comesthrough.newcomers import comes_through_open
from comesthrough.openstories import is_open_story, open_story
from comesthrough.stories import held_story, is_story
from tests.model import model_is_story
from tests.samples import (
    NAMES, WORDS, aged_house, aged_houses, changed_leaves, changed_tuples, drawn_house, drawn_houses, junk, refusal,
    spoilt_leaf, spoilt_tuples,
)
from tests.throughmodel import model_places, model_through, model_word

HOUSE = ((("a", True, 0),), ("s",), (((("oust", "wait"),),),))
TWO = ((("a", True, 0), ("b", False, 1)), ("s",), (((("oust", "wait"),) * 2,) * 2,))
FULL = (
    tuple((name, True, at) for at, name in enumerate("abcde")), ("s", "t"), (((("oust", "wait"),) * 5,) * 5,) * 2,
)
CHANGES = {
    "put_word": with_word, "put_keeps": with_keeps, "put_rise": with_rise, "add_kind": with_kind, "drop_kind": without_kind,
}


def names_of(house):
    return [kind[0] for kind in house[0]]


def does_hold(house, wish):
    """Whether a wish holds, by the plain models."""
    if wish[0] == "meek":
        words = {model_word(house, place) for place in model_places(house)}
        return "oust" not in words and all(kind[2] == at for at, kind in enumerate(house[0]))
    return wish[1] in names_of(house) and names_of(house).index(wish[1]) in model_through(house, wish[0] == "open")


def shown_by_rule(house, wish):
    """What NotKept has to show."""
    if wish[0] == "meek":
        ousts = [place for place in model_places(house) if model_word(house, place) == "oust"]
        return ousts[0] if ousts else [at for at, kind in enumerate(house[0]) if kind[2] != at][0]
    if wish[1] not in names_of(house):
        return None
    kind = names_of(house).index(wish[1])
    return open_story(house, kind) if wish[0] == "open" else held_story(house, kind)


def told_of(book):
    return (book.house_now(), book.wishes_now())


class ModelBook:
    """A book that keeps a list of all that was done, and does it all anew each time."""

    def __init__(self, house):
        self.first = house
        self.done = []
        self.back = []

    def told(self):
        house, wishes = self.first, []
        for name, told in self.done:
            if name == "wish":
                wishes.append(told[0])
            elif name == "unwish":
                del wishes[told[0]]
            else:
                house = CHANGES[name](house, *told)
        return (house, wishes)

    def refused(self, name, told):
        """The class and the fields of the error that is raised, all arguments being as described; None if none is."""
        house, wishes = self.told()
        if name in ("undo", "redo"):
            return None if (self.done if name == "undo" else self.back) else (Nothing,)
        if name == "unwish":
            return None
        if name == "wish":
            return None if does_hold(house, told[0]) else (NotKept, len(wishes), shown_by_rule(house, told[0]))
        error = refusal(CHANGES[name], house, *told)
        if error is not None:
            return (error.__class__,) + tuple(vars(error).values())
        house = CHANGES[name](house, *told)
        for index, wish in enumerate(wishes):
            if not does_hold(house, wish):
                return (NotKept, index, shown_by_rule(house, wish))
        return None

    def do(self, name, told):
        if name == "undo":
            self.back.append(self.done.pop())
        elif name == "redo":
            self.done.append(self.back.pop())
        else:
            self.done.append((name, told))
            self.back = []


def drawn_call(draw, house, wishes):
    """The name of a method and arguments that are as described."""
    kinds = range(len(house[0]))
    name = draw.choice(["put_word"] * 6 + ["put_keeps", "put_rise", "put_rise", "add_kind", "drop_kind"] * 2 + ["wish"] * 5
                       + ["unwish"] * 2 + ["undo"] * 7 + ["redo"] * 6)
    kind = draw.choice(kinds)
    if name == "put_word":
        return (name, (draw.choice(model_places(house)), draw.choice(WORDS)))
    if name == "put_keeps":
        return (name, (kind, draw.random() < 0.5))
    if name == "put_rise":
        return (name, (kind, draw.randint(kind, len(kinds) - 1)))
    if name == "add_kind":
        return (name, (draw.choice(NAMES), kind))
    if name == "drop_kind":
        return (name, (kind,))
    if name == "wish":
        through = [
            (word, names_of(house)[one]) for word in ("through", "open") for one in model_through(house, word == "open")
        ]
        lots = [[("meek",)], [(draw.choice(["through", "open"]), names_of(house)[kind])]] + [through] * (2 * bool(through))
        return (name, (draw.choice(draw.choice(lots)),))
    if name == "unwish":
        return (name, (draw.randrange(len(wishes)),)) if wishes else ("undo", ())
    return (name, ())


class TestLongRows(unittest.TestCase):
    def lead(self, seed, house, steps, seen):
        draw = random.Random(seed)
        book, model = Book(house), ModelBook(house)
        twins = []
        for _ in range(steps):
            name, told = drawn_call(draw, *model.told())
            wanted = model.refused(name, told)
            before = told_of(book)
            error = refusal(getattr(book, name), *told)
            if wanted is None:
                self.assertIsNone(error, (name, told))
                model.do(name, told)
            else:
                self.assertEqual((error.__class__,) + tuple(vars(error).values()), wanted, (name, told))
                self.assertEqual(told_of(book), before)
            self.assertEqual(told_of(book), model.told())
            which = (name, wanted and wanted[0])
            seen[which] = seen.get(which, 0) + 1
            if draw.random() < 0.1:
                twins.append((book.twin(), model.told(), list(model.done), list(model.back)))
        for twin, now, done, back in twins:
            self.assertEqual(told_of(twin), now)
            self.whole_way(twin, ModelBook(house), done, back)

    def whole_way(self, book, model, done, back):
        """Take all back, and do all again, one by one."""
        model.done, model.back = list(done), list(back)
        for name, steps in (("undo", len(done)), ("redo", len(done) + len(back))):
            for _ in range(steps):
                getattr(book, name)()
                model.do(name, ())
                self.assertEqual(told_of(book), model.told())
            self.assertEqual(refusal(getattr(book, name)).__class__, Nothing)
            self.assertEqual(told_of(book), model.told())

    def test_against_a_book_that_does_all_anew(self):
        seen = {}
        draw = random.Random(750)
        for seed in range(200):
            house = drawn_house(draw, kinds=draw.randint(1, 3), sorts=1) if seed % 3 else aged_house(draw, draw.randint(1, 4))
            self.lead(seed, house, 60, seen)
        wanted = [
            ("put_word", None), ("put_word", NotKept), ("put_keeps", None), ("put_keeps", NotKept), ("put_rise", None),
            ("put_rise", NotKept), ("add_kind", None), ("add_kind", TooMany), ("add_kind", Taken), ("add_kind", NotKept),
            ("drop_kind", None), ("drop_kind", TooFew), ("drop_kind", NotKept), ("wish", None), ("wish", NotKept),
            ("unwish", None), ("undo", None), ("undo", Nothing), ("redo", None), ("redo", Nothing),
        ]
        for which in wanted:
            self.assertGreater(seen.get(which, 0), 2, (which, seen))
        self.assertEqual(set(wanted), set(seen))

    def test_a_long_row_taken_back_and_done_again(self):
        draw = random.Random(751)
        book, states = Book(TWO), [told_of(Book(TWO))]
        while len(states) < 400:
            name, told = drawn_call(draw, *states[-1])
            if name not in ("undo", "redo") and refusal(getattr(book, name), *told) is None:
                states.append(told_of(book))
        for _ in range(2):
            for state in states[:-1][::-1]:
                self.assertIsNone(book.undo())
                self.assertEqual(told_of(book), state)
            self.assertEqual(refusal(book.undo).__class__, Nothing)
            for state in states[1:]:
                self.assertIsNone(book.redo())
                self.assertEqual(told_of(book), state)
            self.assertEqual(refusal(book.redo).__class__, Nothing)


class TestChanges(unittest.TestCase):
    def test_what_is_returned(self):
        book = Book(TWO)
        self.assertIsNone(book.put_word((0, 0, 0, 0), "wait"))
        self.assertIsNone(book.put_keeps(1, True))
        self.assertIsNone(book.put_rise(0, 1))
        self.assertIsNone(book.add_kind("c", 1))
        self.assertIsNone(book.drop_kind(0))
        house = without_kind(with_kind(with_rise(with_keeps(with_word(TWO, (0, 0, 0, 0), "wait"), 1, True), 0, 1), "c", 1), 0)
        self.assertEqual(book.house_now(), house)
        self.assertIs(is_house(book.house_now()), True)

    def test_what_houses_raise(self):
        self.assertEqual(vars(refusal(Book(FULL).add_kind, "f", 0)), {"most": 5})
        self.assertEqual(refusal(Book(FULL).add_kind, "a", 0).__class__, TooMany)
        error = refusal(Book(TWO).add_kind, "b", 0)
        self.assertEqual((error.__class__, error.name), (Taken, "b"))
        self.assertEqual(refusal(Book(HOUSE).drop_kind, 0).__class__, TooFew)
        # What houses raise comes ahead of NotKept.
        book = Book(HOUSE)
        book.wish(("open", "a"))
        self.assertEqual(refusal(book.drop_kind, 0).__class__, TooFew)
        self.assertEqual(refusal(book.add_kind, "a", 0).__class__, Taken)

    def test_a_change_by_which_nothing_changes_is_one_too(self):
        for name, told in (("put_word", ((0, 0, 0, 0), "oust")), ("put_keeps", (0, True)), ("put_rise", (0, 0))):
            book = Book(TWO)
            book.put_keeps(1, True)
            house = book.house_now()
            getattr(book, name)(*told)
            self.assertEqual(book.house_now(), house)
            book.undo()
            self.assertEqual(book.house_now(), house)
            book.redo()
            book.undo()
            book.undo()
            self.assertEqual(book.house_now(), TWO)
            self.assertEqual(refusal(book.undo).__class__, Nothing)

    def test_the_example(self):
        book = Book(HOUSE)
        told = [book.wish(("open", "a")), book.put_word((0, 0, 0, 1), "yield"), book.undo(), book.wishes_now()]
        self.assertEqual(told, [None, None, None, [("open", "a")]])


class TestWishes(unittest.TestCase):
    def test_each_wish_against_all_changes_of_a_word(self):
        seen = {}
        for house in drawn_houses(752, 15) + aged_houses(753, 150) + drawn_houses(754, 15, words=("wait", "yield"), rising=False):
            book = Book(house)
            for name in names_of(house):
                for word in ("through", "open"):
                    self.ask(book, (word, name), seen)
            self.ask(book, ("meek",), seen)
            wishes = book.wishes_now()
            for place in model_places(house)[::5]:
                for word in WORDS:
                    other = with_word(house, place, word)
                    broken = [index for index, wish in enumerate(wishes) if not does_hold(other, wish)]
                    error = refusal(book.put_word, place, word)
                    if broken:
                        self.check(error, broken[0], other, wishes[broken[0]])
                        seen["put", wishes[broken[0]][0]] = seen.get(("put", wishes[broken[0]][0]), 0) + 1
                    else:
                        self.assertIsNone(error)
                        self.assertEqual(book.house_now(), other)
                        book.undo()
                    self.assertEqual(told_of(book), (house, wishes))
        for told in ("through", "open", "meek"):
            for which in ((told, True), (told, False), ("put", told)):
                self.assertGreater(seen.get(which, 0), 5, (which, seen))

    def ask(self, book, wish, seen):
        house, wishes = told_of(book)
        error = refusal(book.wish, wish)
        holds = does_hold(house, wish)
        seen[wish[0], holds] = seen.get((wish[0], holds), 0) + 1
        if holds:
            self.assertIsNone(error)
            self.assertEqual(told_of(book), (house, wishes + [wish]))
        else:
            self.check(error, len(wishes), house, wish)
            self.assertEqual(told_of(book), (house, wishes))

    def check(self, error, index, house, wish):
        """That a wish does not hold in a house is told, and shown, as it has to be."""
        self.assertIsInstance(error, NotKept)
        self.assertEqual((error.index, error.shown), (index, shown_by_rule(house, wish)))
        if wish[0] != "meek" and wish[1] in names_of(house):
            kind = names_of(house).index(wish[1])
            if wish[0] == "through":
                self.assertTrue(model_is_story(house, kind, error.shown))
                self.assertIs(is_story(house, kind, error.shown), True)
            else:
                self.assertIs(is_open_story(house, kind, error.shown), True)

    def test_kinds_that_go(self):
        waits = ((("a", True, 0), ("b", True, 1)), ("s",), (((("oust", "wait"),) * 2,) * 2,))
        book = Book(waits)
        for wish in (("open", "b"), ("through", "a"), ("through", "b")):
            book.wish(wish)
        error = refusal(book.drop_kind, 1)
        self.assertEqual((error.__class__, error.index, error.shown), (NotKept, 0, None))
        error = refusal(book.drop_kind, 0)
        self.assertEqual((error.__class__, error.index, error.shown), (NotKept, 1, None))
        self.assertEqual(book.unwish(1), ("through", "a"))
        self.assertIsNone(book.drop_kind(0))
        self.assertEqual(told_of(book), (without_kind(waits, 0), [("open", "b"), ("through", "b")]))
        # A new kind of that name is another one; the wish would have to be made anew.
        book.add_kind("a", 0)
        self.assertEqual(book.wishes_now(), [("open", "b"), ("through", "b")])

    def test_meek(self):
        kinds = (("a", True, 0), ("b", True, 1))
        rises = (("a", True, 1), ("b", True, 1))
        meek = (((("wait", "yield"),) * 2,) * 2,)
        ousts = (((("wait", "wait"), ("wait", "oust")), (("oust", "oust"), ("wait", "wait"))),)
        for house, shown in (
            ((kinds, ("s",), ousts), (0, 0, 1, 1)), ((rises, ("s",), ousts), (0, 0, 1, 1)), ((rises, ("s",), meek), 0),
            ((rises, ("s", "t"), meek + ousts), (1, 0, 1, 1)),
            ((kinds + (("c", True, 3), ("d", True, 3)), ("s",), (((("wait", "yield"),) * 4,) * 4,)), 2),
        ):
            error = refusal(Book(house).wish, ("meek",))
            self.assertEqual((error.__class__, error.index, error.shown), (NotKept, 0, shown))
        book = Book((kinds, ("s",), meek))
        book.wish(("meek",))
        error = refusal(book.put_word, (0, 1, 0, 0), "oust")
        self.assertEqual((error.__class__, error.index, error.shown), (NotKept, 0, (0, 1, 0, 0)))
        error = refusal(book.put_rise, 0, 1)
        self.assertEqual((error.__class__, error.index, error.shown), (NotKept, 0, 0))
        self.assertIsNone(book.put_keeps(0, False))
        self.assertIsNone(book.put_word((0, 1, 0, 0), "yield"))
        self.assertIsNone(book.drop_kind(0))
        self.assertIsNone(book.add_kind("a", 0))

    def test_a_kind_called_meek(self):
        # What a wish is about is told by its first word alone.
        for name in ("meek", "open", "through"):
            house = (((name, True, 0),),) + HOUSE[1:]
            book = Book(house)
            self.assertIsNone(book.wish(("open", name)))
            self.assertIsNone(book.wish(("through", name)))
            error = refusal(book.wish, ("meek",))
            self.assertEqual((error.__class__, error.index, error.shown), (NotKept, 2, (0, 0, 0, 0)))
            error = refusal(book.put_word, (0, 0, 0, 0), "wait")
            self.assertEqual((error.index, error.shown), (0, open_story(with_word(house, (0, 0, 0, 0), "wait"), 0)))

    def test_the_least_index(self):
        book = Book(HOUSE)
        for wish in (("through", "a"), ("open", "a"), ("through", "a")):
            self.assertIsNone(book.wish(wish))
        self.assertEqual(book.wishes_now(), [("through", "a"), ("open", "a"), ("through", "a")])
        # By this word newcomers alone hold it off; by the next one others do, too.
        error = refusal(book.put_word, (0, 0, 0, 0), "wait")
        self.assertEqual((error.__class__, error.index), (NotKept, 0))
        book.unwish(0)
        book.unwish(1)
        error = refusal(book.put_word, (0, 0, 0, 0), "wait")
        self.assertEqual((error.__class__, error.index), (NotKept, 0))
        self.assertEqual(book.unwish(0), ("open", "a"))
        self.assertEqual(book.wishes_now(), [])
        self.assertIsNone(book.put_word((0, 0, 0, 0), "wait"))
        error = refusal(book.wish, ("through", "a"))
        self.assertEqual((error.index, error.shown), (0, held_story(book.house_now(), 0)))
        self.assertEqual(book.undo(), None)
        self.assertEqual(book.redo(), None)

    def test_the_same_wish_twice_is_taken_back_once(self):
        book = Book(HOUSE)
        book.wish(("open", "a"))
        book.wish(("open", "a"))
        book.undo()
        self.assertEqual(book.wishes_now(), [("open", "a")])
        book.redo()
        self.assertEqual(book.unwish(1), ("open", "a"))
        book.undo()
        self.assertEqual(book.wishes_now(), [("open", "a")] * 2)

    def test_lists_are_new(self):
        book = Book(HOUSE)
        book.wish(("open", "a"))
        book.wishes_now().append(("meek",))
        book.wishes_now().clear()
        self.assertEqual(book.wishes_now(), [("open", "a")])
        self.assertEqual(book.unwish(0), ("open", "a"))


class TestUndo(unittest.TestCase):
    def test_redo_only_behind_undo(self):
        book = Book(TWO)
        self.assertEqual(refusal(book.undo).__class__, Nothing)
        self.assertEqual(refusal(book.redo).__class__, Nothing)
        book.put_keeps(1, True)
        self.assertEqual(refusal(book.redo).__class__, Nothing)
        book.undo()
        # What is refused changes nothing: so it can still be done again.
        self.assertEqual(refusal(book.add_kind, "a", 0).__class__, Taken)
        self.assertEqual(refusal(book.put_rise, 1, 0).__class__, Wrong)
        self.assertEqual(refusal(book.wish, ("meek",)).__class__, NotKept)
        self.assertIsNone(book.redo())
        book.undo()
        book.put_keeps(0, False)
        self.assertEqual(refusal(book.redo).__class__, Nothing)
        self.assertEqual(book.house_now(), with_keeps(TWO, 0, False))

    def test_twins(self):
        book = Book(TWO)
        book.put_keeps(1, True)
        book.put_rise(0, 1)
        book.undo()
        twin = book.twin()
        self.assertIsInstance(twin, Book)
        self.assertEqual(told_of(twin), told_of(book))
        twin.redo()
        self.assertEqual(twin.house_now(), with_rise(with_keeps(TWO, 1, True), 0, 1))
        self.assertEqual(book.house_now(), with_keeps(TWO, 1, True))
        twin.undo()
        twin.undo()
        self.assertEqual(twin.house_now(), TWO)
        self.assertEqual(refusal(twin.undo).__class__, Nothing)
        twin.put_keeps(0, False)
        self.assertEqual(refusal(twin.redo).__class__, Nothing)
        book.redo()
        self.assertEqual(book.house_now(), with_rise(with_keeps(TWO, 1, True), 0, 1))
        again = book.twin()
        book.undo()
        book.undo()
        book.drop_kind(0)
        self.assertEqual(again.house_now(), with_rise(with_keeps(TWO, 1, True), 0, 1))


def is_index(many, thing):
    return isinstance(thing, int) and not isinstance(thing, bool) and 0 <= thing < many


class TestWrong(unittest.TestCase):
    def values(self, right):
        """Any values, and what is right with parts of it exchanged, left out or added."""
        others = junk() + [Hall(HOUSE), Book(HOUSE), right]
        if isinstance(right, tuple):
            others += list(changed_leaves(right, spoilt_leaf)) + list(changed_tuples(right, spoilt_tuples))
        else:
            others += spoilt_leaf(right)
        return others

    def test_houses(self):
        for house in (HOUSE, TWO, FULL):
            for thing in self.values(house):
                error = refusal(Book, thing)
                if is_house(thing):
                    self.assertEqual(Book(thing).house_now(), thing)
                else:
                    self.assertEqual((error.__class__, error.place), (Wrong, 0))

    def test_each_argument_of_each_change(self):
        kind = lambda house, thing: is_index(len(house[0]), thing)
        rows = {
            "put_word": (((0, 0, 0, 1), is_place), ("wait", lambda house, thing: is_word(thing))),
            "put_keeps": ((0, kind), (True, lambda house, thing: isinstance(thing, bool))),
            "put_rise": ((0, kind), (0, kind)),
            "add_kind": (("new", lambda house, thing: is_name(thing)), (0, kind)),
            "drop_kind": ((0, kind),),
            "unwish": ((0, lambda house, thing: is_index(1, thing)),),
            "wish": ((("open", "a"), self.is_wish),),
        }
        for house in (HOUSE, TWO, FULL):
            for name, parts in rows.items():
                book = Book(house)
                book.wish(("open", "a"))
                book.put_keeps(0, True)
                book.undo()
                self.ask_each(book, name, parts)
                self.assertEqual(told_of(book), (house, [("open", "a")]))
                self.assertIsNone(book.redo())

    def ask_each(self, book, name, parts):
        house = book.house_now()
        rights = [right for right, _ in parts]
        for at, (right, is_right) in enumerate(parts):
            for thing in self.values(right):
                if not is_right(house, thing):
                    told = rights[:at] + [thing] + rights[at + 1:]
                    error = refusal(getattr(book, name), *told)
                    self.assertEqual((error.__class__, error.place), (Wrong, at), (name, told))
                    if at == 0 and len(parts) > 1:
                        error = refusal(getattr(book, name), thing, thing)
                        self.assertEqual((error.__class__, error.place), (Wrong, 0))

    @staticmethod
    def is_wish(house, thing):
        names = names_of(house)
        return thing in [("meek",)] + [(word, name) for word in ("through", "open") for name in names]

    def test_wrong_comes_ahead_of_all_else(self):
        full, one = Book(FULL), Book(HOUSE)
        for call, told, place in (
            (full.add_kind, ("A", 0), 0), (full.add_kind, ("f", 5), 1), (full.add_kind, ("a", -1), 1),
            (one.add_kind, ("a", 1), 1), (one.add_kind, ("a", True), 1), (one.drop_kind, (1,), 0), (one.drop_kind, (False,), 0),
            (one.unwish, (0,), 0), (one.unwish, (-1,), 0), (one.wish, (("through", "b"),), 0), (one.wish, (("open",),), 0),
            (one.wish, (("meek", "a"),), 0), (one.wish, (["meek"],), 0), (one.wish, (("open", "a", "a"),), 0),
            (full.put_rise, (1, 0), 1), (full.put_rise, (1, 5), 1), (full.put_rise, (5, 0), 0), (one.wish, ((),), 0),
            (one.put_word, ((0, 0, 0, 2), "wait"), 0), (one.put_word, ((1, 0, 0, 0), "wait"), 0), (one.wish, ("meek",), 0),
        ):
            error = refusal(call, *told)
            self.assertEqual((error.__class__, error.place), (Wrong, place), told)
        # What is asked is the house as it is: kinds come and go.
        full.drop_kind(4)
        self.assertEqual(refusal(full.put_keeps, 4, True).place, 0)
        self.assertEqual(refusal(full.wish, ("open", "e")).place, 0)
        full.undo()
        self.assertIsNone(full.put_keeps(4, True))
        full.drop_kind(0)
        self.assertEqual(refusal(full.wish, ("open", "a")).place, 0)
        self.assertIsNone(full.wish(("open", "e")))


class TestWishesOfThePackage(unittest.TestCase):
    def test_they_hold_as_the_package_tells(self):
        for house in aged_houses(755, 60):
            book = Book(house)
            for kind, name in enumerate(names_of(house)):
                self.assertIs(refusal(book.wish, ("through", name)) is None, not can_be_held(house, kind))
                self.assertIs(refusal(book.wish, ("open", name)) is None, comes_through_open(house, kind))
            self.assertIs(refusal(book.wish, ("meek",)) is None, is_meek(house))


if __name__ == "__main__":
    unittest.main()
