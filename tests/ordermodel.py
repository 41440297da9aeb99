"""Meek houses, and the graph of spots once more, as plainly as the document's words have it, to compare with."""

import functools
import itertools
import random

from tests.model import model_moves
from tests.samples import drawn_house


def meek_houses(seed, many, **told):
    """Couples of a meek house and an order of it."""
    draw = random.Random(seed)
    found = []
    for _ in range(many):
        house = drawn_house(draw, rising=False, words=draw.choice(STYLES), **told)
        couples = list(itertools.product(range(len(house[1])), repeat=2))
        found.append((house, tuple(couple for couple in couples if draw.random() < draw.choice([0.3, 0.6, 1]))))
    return found


def ruled_houses(seed, many):
    """Couples of a meek house in which all waits are for younger ones, and who yields is younger, and an order."""
    draw = random.Random(seed)
    found = []
    for house, order in meek_houses(seed, many):
        kinds, words = range(len(house[0])), (("wait", "yield"), ("wait", "yield"), ("wait", "wait"))[:draw.choice([2, 2, 3])]
        judge = tuple(tuple(tuple(draw.choice(words) for _ in kinds) for _ in kinds) for _ in house[1])
        found.append(((house[0], house[1], judge), order))
    return found


def parted_houses(seed, many):
    """Couples of a meek house in which the first kinds wait for the others, which always yield, and an order."""
    draw = random.Random(seed)
    found = []
    for house, order in meek_houses(seed, many, kinds=draw.randint(2, 4)):
        kinds, first = range(len(house[0])), draw.randint(1, len(house[0]) - 1)
        judge = tuple(
            tuple(
                tuple(
                    ("yield", "yield") if asker >= first else ("wait", "wait" if holder >= first else "yield")
                    for holder in kinds
                )
                for asker in kinds
            )
            for _ in house[1]
        )
        found.append(((house[0], house[1], judge), order))
    return found


STYLES = (("wait", "yield"), ("wait", "wait", "yield"), ("wait", "yield", "yield"), ("yield",), ("wait",))
HOUSES = (
    meek_houses(500, 120) + meek_houses(501, 80, kinds=1) + meek_houses(502, 80, kinds=2, sorts=2)
    + meek_houses(503, 80, kinds=1, sorts=3) + meek_houses(504, 40, kinds=5, sorts=3) + meek_houses(505, 60, renewing=False)
    + ruled_houses(508, 60) + parted_houses(509, 20)
)


@functools.lru_cache(maxsize=2000)
def model_order_edges(house, order):
    """All edges between spots, by the words of the document."""
    found = set()
    kinds, sorts = range(len(house[0])), range(len(house[1]))
    for p, q, t, side in itertools.product(kinds, kinds, sorts, (0, 1)):
        said, word = house[2][t][p][q][side], ("younger", "elder")[side]
        for s in (-1,) + tuple(sorts):
            if s == -1 or (s, t) in order:
                if said == "wait":
                    found.add((("stand", p, s), ("stand", q, t), word))
                if said == "yield":
                    found.add((("anew", p, s), ("stand", q, t), word))
                    found.add((("anew", p, s), ("anew", q, t), word))
    kept = []
    for one, other, word in sorted(found):
        moves = (model_moves(house, one), model_moves(house, other))
        if not (moves == (False, True) and word == "elder") and not (moves == (True, False) and word == "younger"):
            kept.append((one, other, word))
    return tuple(kept)


def model_spots(house):
    return sorted(itertools.product(("anew", "stand"), range(len(house[0])), range(-1, len(house[1]))))


@functools.lru_cache(maxsize=2000)
def model_order_knots(house, order):
    """All knots of spots, and the bad ones, by what is reached from where."""
    edges = model_order_edges(house, order)
    leads = {}
    for one, other, _ in edges:
        leads.setdefault(one, set()).add(other)
    ahead = {spot: reached(leads, spot) for spot in model_spots(house)}
    knots = sorted({
        tuple(sorted(other for other in ahead[spot] if spot in ahead[other])) for spot in ahead if spot in ahead[spot]
    })
    bad = []
    for knot in knots:
        words = {edge[2] for edge in edges if edge[0] in knot and edge[1] in knot}
        if len(words) == 2 or ("younger" in words and any(model_moves(house, spot) for spot in knot)):
            bad.append(knot)
    return knots, bad, ahead


def reached(leads, spot):
    found, left = set(), [spot]
    while left:
        for other in leads.get(left.pop(), ()):
            if other not in found:
                found.add(other)
                left.append(other)
    return found


def model_can_be_held_by(house, order, kind):
    _, bad, ahead = model_order_knots(house, order)
    spots = {spot for knot in bad for spot in knot}
    return bool(spots & (ahead["stand", kind, -1] | ahead["anew", kind, -1]))


def is_ordered_by_rule(order, program):
    locks = [deed for deed in program[1] if deed != "work"]
    return all((one[0], other[0]) in order for at, other in enumerate(locks) for one in locks[:at])
