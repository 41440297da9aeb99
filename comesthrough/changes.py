"""Changes of a house by which kinds come through."""

from itertools import combinations

from comesthrough.errors import TooMany
from comesthrough.forms import WORDS, is_place, is_tuple, is_word
from comesthrough.houses import places_of, with_keeps, with_rise, with_word, word_at
from comesthrough.lots import has_part, least_lots
from comesthrough.trials import Trial, all_through

PLACES_MOST = 40


def is_change(house, thing):
    if not (isinstance(thing, tuple) and all([_is_other_word(house, couple) for couple in thing])):
        return False
    places = [place for place, _ in thing]
    return places == sorted(set(places))


def changed(house, change):
    fresh = house
    for place, word in change:
        fresh = with_word(fresh, place, word)
    return fresh


def least_changes(house, kinds, is_open, most):
    places = places_of(house)
    if most == 2 and len(places) > PLACES_MOST:
        raise TooMany(PLACES_MOST)
    trial = Trial(house)
    found = []
    for many in range(most + 1):
        for lot in combinations(places, many):
            rest = trial.lot_of([place for place in places if place not in lot])
            for change, edges in _changes_at(house, trial, lot):
                if not has_part(found, change) and trial.are_through(rest | edges, kinds, is_open):
                    found.append(change)
    return sorted(found)


def least_keeping(house, kinds, is_open):
    renewing = [kind for kind in range(len(house[0])) if not house[0][kind][1]]

    def is_enough(lot):
        return all_through(_keeping(house, lot), kinds, is_open)

    return least_lots(renewing, is_enough)


def helping_rises(house, kind, is_open):
    rises = range(kind, len(house[0]))
    return tuple([rise for rise in rises if all_through(with_rise(house, kind, rise), (kind,), is_open)])


def _is_other_word(house, thing):
    """Tell whether a value is a couple of a place and a word that is not there."""
    if not (is_tuple(2, thing) and is_place(house, thing[0]) and is_word(thing[1])):
        return False
    return word_at(house, thing[0]) != thing[1]


def _changes_at(house, trial, places):
    """The changes of just these places, each with the lot of the edges that its words bring."""
    changes = [((), 0)]
    for place in places:
        words = [word for word in WORDS if word != word_at(house, place)]
        changes = [
            (change + ((place, word),), lot | trial.lot_at(place, word)) for change, lot in changes for word in words
        ]
    return changes


def _keeping(house, kinds):
    fresh = house
    for kind in kinds:
        fresh = with_keeps(fresh, kind, True)
    return fresh
