"""What holds a kind off in a closed house: places that are enough for it, and those without which it comes through."""

from itertools import combinations

from comesthrough.errors import TooMany
from comesthrough.forms import WORDS
from comesthrough.houses import places_of
from comesthrough.trials import Trial

PLACES_MOST = 20


def holds(house, kind, places):
    return _is_held(Trial(house), kind, places)


def least_holding(house, kind):
    places = places_of(house)
    if len(places) > PLACES_MOST:
        raise TooMany(PLACES_MOST)
    trial = Trial(house)
    if not _is_held(trial, kind, places):
        return []
    # Places that bring nothing are in no least set.
    telling = [place for place in places if trial.lot_of([place]) != 0]
    for many in range(1, len(telling) + 1):
        found = [lot for lot in combinations(telling, many) if _is_held(trial, kind, lot)]
        if found:
            return found
    return []


def blamed(house, kind):
    trial = Trial(house)
    places = places_of(house)
    if not _is_held(trial, kind, places):
        return []
    couples = []
    for place in places:
        rest = trial.lot_of([one for one in places if one != place])
        words = [word for word in WORDS if trial.are_through(rest | trial.lot_at(place, word), (kind,), False)]
        if words:
            couples.append((place, tuple(words)))
    return couples


def in_all(house, kind):
    trial = Trial(house)
    places = places_of(house)
    if not _is_held(trial, kind, places):
        return ()
    return tuple([place for place in places if not _is_held(trial, kind, [one for one in places if one != place])])


def _is_held(trial, kind, places):
    """Tell whether a kind is held off by what the words at these places alone bring."""
    return not trial.are_through(trial.lot_of(places), (kind,), False)
