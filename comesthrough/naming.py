"""What it brings to begin as a program of another kind, and words by which it brings nothing."""

from comesthrough.changes import least_changes
from comesthrough.houses import places_of
from comesthrough.trials import Trial


def through_kinds(house, is_open):
    trial = Trial(house)
    lot = trial.lot_of(places_of(house))
    return tuple([kind for kind in range(len(house[0])) if trial.are_through(lot, (kind,), is_open)])


def gaining_kinds(house, kind, kinds, is_open):
    through = through_kinds(house, is_open)
    return () if kind in through else tuple([one for one in kinds if one in through])


def nobody_gains(house, kinds, is_open):
    through = through_kinds(house, is_open)
    return len(set([kind in through for kind in kinds])) < 2


def levelling_words(house, kinds, is_open):
    changes = least_changes(house, kinds, is_open, 1)
    # That nothing has to be changed is told by the empty change.
    return [couple for change in changes for couple in change]
