"""Least lots: parts of told things that are enough for something, while no part of them is."""

from itertools import combinations


def least_lots(things, is_enough):
    """The ascending list of the lots of things, tuples in their order, that are enough, and have no part that is."""
    rows = list(things)
    found = []
    for many in range(len(rows) + 1):
        for lot in combinations(rows, many):
            if not has_part(found, lot) and is_enough(lot):
                found.append(lot)
    return sorted(found)


def has_part(found, lot):
    """Tell whether one of those that were found lies in a lot, or is the same."""
    return any([all([one in lot for one in other]) for other in found])
