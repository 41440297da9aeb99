"""What more words bring: fewer persons by whom a kind is held off."""

from comesthrough.fewheld import cheap_plan, few_held, has_few
from comesthrough.forms import WORDS
from comesthrough.houses import places_of, with_word, word_at
from comesthrough.lots import least_lots


def few_table(house):
    return [few_held(house, kind) for kind in range(len(house[0]))]


def fewer_by(house, kind, most):
    if has_few(house, kind, most):
        return []
    return [
        (place, word)
        for place in places_of(house)
        for word in WORDS
        if word != word_at(house, place) and has_few(with_word(house, place, word), kind, most)
    ]


def by_sorts(house, kind):
    kinds, sorts, judge = house

    def is_enough(lot):
        alone = (kinds, tuple([sorts[sort] for sort in lot]), tuple([judge[sort] for sort in lot]))
        return cheap_plan(alone, kind) is not None

    return least_lots(list(range(len(sorts))), is_enough)
