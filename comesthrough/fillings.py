"""Open words: which words at some places let kinds come through."""

from comesthrough.errors import TooMany
from comesthrough.forms import WORDS
from comesthrough.houses import places_of, with_word
from comesthrough.trials import Trial

PLACES_MOST = 6


def filled(house, places, words):
    fresh = house
    for place, word in zip(places, words):
        fresh = with_word(fresh, place, word)
    return fresh


def fillings(house, places, kinds, is_open):
    if len(places) > PLACES_MOST:
        raise TooMany(PLACES_MOST)
    trial = Trial(house)
    tried = [((), trial.lot_of([place for place in places_of(house) if place not in places]))]
    for place in places:
        tried = [(words + (word,), lot | trial.lot_at(place, word)) for words, lot in tried for word in WORDS]
    return [words for words, lot in tried if trial.are_through(lot, kinds, is_open)]


def fixed_words(house, places, kinds, is_open):
    found = fillings(house, places, kinds, is_open)
    return [tuple(sorted(set([words[at] for words in found]))) for at in range(len(places))]


def free_places(house, places, kinds, is_open):
    found = fillings(house, places, kinds, is_open)
    if not found:
        return ()
    return tuple([place for at, place in enumerate(places) if _is_free(found, at)])


def _is_free(found, at):
    """Tell whether each of these fillings stays one of them with any word at the place with this index."""
    others = set([words[:at] + words[at + 1:] for words in found])
    return len(found) == len(WORDS) * len(others)
