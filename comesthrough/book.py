"""A book that keeps a house, and lets nothing be changed by which a wish would not hold."""

from comesthrough.errors import NotKept, Nothing, Wrong
from comesthrough.forms import is_house, is_index, is_name, is_place, is_word
from comesthrough.held import can_be_held
from comesthrough.houses import (
    is_last, is_meek, kind_named, places_of, with_keeps, with_kind, with_rise, with_word, without_kind, word_at,
)
from comesthrough.newcomers import comes_through_open
from comesthrough.openstories import open_story
from comesthrough.stories import held_story


class Book:
    """A house, the wishes of it, and all that can be taken back or done again."""

    def __init__(self, house):
        if not is_house(house):
            raise Wrong(0)
        # The couples of a house and its wishes that were and, behind the index of what is now, that were taken back.
        self._pages = [(house, ())]
        self._at = 0

    def put_word(self, place, word):
        house = self.house_now()
        if not is_place(house, place):
            raise Wrong(0)
        if not is_word(word):
            raise Wrong(1)
        self._change(with_word(house, place, word))

    def put_keeps(self, kind, keeps):
        self._ask_kind(kind, 0)
        if not isinstance(keeps, bool):
            raise Wrong(1)
        self._change(with_keeps(self.house_now(), kind, keeps))

    def put_rise(self, kind, rise):
        self._ask_kind(kind, 0)
        self._ask_kind(rise, 1)
        if rise < kind:
            raise Wrong(1)
        self._change(with_rise(self.house_now(), kind, rise))

    def add_kind(self, name, like):
        if not is_name(name):
            raise Wrong(0)
        self._ask_kind(like, 1)
        self._change(with_kind(self.house_now(), name, like))

    def drop_kind(self, kind):
        self._ask_kind(kind, 0)
        self._change(without_kind(self.house_now(), kind))

    def wish(self, thing):
        house, wishes = self._pages[self._at]
        if not _is_wish(house, thing):
            raise Wrong(0)
        if not _does_hold(house, thing):
            raise NotKept(len(wishes), _shown_against(house, thing))
        self._turn(house, wishes + (thing,))

    def unwish(self, index):
        house, wishes = self._pages[self._at]
        if not is_index(len(wishes), index):
            raise Wrong(0)
        self._turn(house, wishes[:index] + wishes[index + 1:])
        return wishes[index]

    def house_now(self):
        return self._pages[self._at][0]

    def wishes_now(self):
        return list(self._pages[self._at][1])

    def undo(self):
        if self._at == 0:
            raise Nothing()
        self._at -= 1

    def redo(self):
        if self._at == len(self._pages) - 1:
            raise Nothing()
        self._at += 1

    def twin(self):
        other = Book(self.house_now())
        other._pages = list(self._pages)
        other._at = self._at
        return other

    def _ask_kind(self, thing, place):
        """Raise Wrong(place) if a value is not the index of a kind."""
        if not is_index(len(self.house_now()[0]), thing):
            raise Wrong(place)

    def _change(self, house):
        """Let this be the house, if all wishes hold in it."""
        wishes = self._pages[self._at][1]
        for index, wish in enumerate(wishes):
            if not _does_hold(house, wish):
                raise NotKept(index, _shown_against(house, wish))
        self._turn(house, wishes)

    def _turn(self, house, wishes):
        """Let this be what is now; what was taken back cannot be done again any more."""
        self._pages = self._pages[:self._at + 1] + [(house, wishes)]
        self._at += 1


def _is_wish(house, thing):
    """Tell whether a value is a wish about a kind that is there, or about the whole house."""
    if not (isinstance(thing, tuple) and all([isinstance(part, str) for part in thing])):
        return False
    if len(thing) == 2:
        return thing[0] in ("through", "open") and _is_there(house, thing[1])
    return thing == ("meek",)


def _is_there(house, name):
    return name in [kind[0] for kind in house[0]]


def _does_hold(house, wish):
    if wish[0] == "meek":
        return is_meek(house)
    if not _is_there(house, wish[1]):
        return False
    kind = kind_named(house, wish[1])
    return comes_through_open(house, kind) if wish[0] == "open" else not can_be_held(house, kind)


def _shown_against(house, wish):
    """What shows that a wish does not hold."""
    if wish[0] == "meek":
        ousts = [place for place in places_of(house) if word_at(house, place) == "oust"]
        rising = [kind for kind in range(len(house[0])) if not is_last(house, kind)]
        return (ousts + rising)[0]
    if not _is_there(house, wish[1]):
        return None
    kind = kind_named(house, wish[1])
    return open_story(house, kind) if wish[0] == "open" else held_story(house, kind)
