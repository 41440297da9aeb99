"""Who comes through, by the plain models of closed and of open houses, and by some places alone."""

import functools
import itertools

from tests.model import (
    model_edges, model_is_held, model_is_left_out, model_moves, model_nodes, model_nodes_of, model_outs, model_reach,
)
from tests.openmodel import model_comes_through_open

WORDS = ("oust", "wait", "yield")


@functools.lru_cache(maxsize=100000)
def model_through(house, is_open):
    """The tuple of the kinds that come through."""
    kinds = range(len(house[0]))
    if is_open:
        return tuple(kind for kind in kinds if model_comes_through_open(house, kind))
    return tuple(kind for kind in kinds if not model_is_held(house, kind))


def all_come_through(house, kinds, is_open):
    return set(kinds) <= set(model_through(house, is_open))


def model_places(house):
    kinds = range(len(house[0]))
    return list(itertools.product(range(len(house[1])), kinds, kinds, (0, 1)))


def model_word(house, place):
    sort, asker, holder, side = place
    return house[2][sort][asker][holder][side]


def with_words(house, places, words):
    """The house with these words at these places."""
    put = dict(zip(places, words))
    kinds = range(len(house[0]))
    judge = tuple(
        tuple(
            tuple(
                tuple(put.get((s, p, q, side), house[2][s][p][q][side]) for side in (0, 1))
                for q in kinds
            )
            for p in kinds
        )
        for s in range(len(house[1]))
    )
    return (house[0], house[1], judge)


def model_holds(house, kind, places):
    """Whether a kind can be held when only these places bring edges and raises, by the words of [57]."""
    brings = {edge for edge, found in model_edges(house).items() if set(found) & set(places)}
    edges = [edge for edge in brings if not model_is_left_out(house, edge)]
    nodes = model_nodes(house)
    reach = model_reach(edges, nodes)
    bad = set()
    for node in nodes:
        knot = [other for other in nodes if (node, other) in reach and (other, node) in reach]
        words = {word for one, other, word in edges if one in knot and other in knot}
        if len(words) == 2 or ("younger" in words and any(model_moves(house, one) for one in knot)):
            bad |= set(knot)
    here = kind
    while True:
        own = model_nodes_of(house, here)
        if any(node in bad or any((node, other) in reach for other in bad) for node in own):
            return True
        rise = house[0][here][2]
        if rise == here or not {place for place, _ in model_outs(house, here)} & set(places):
            return False
        here = rise


def drawn_kinds(draw, house):
    """An ascending tuple of kinds, often one or all of them, sometimes none."""
    kinds = range(len(house[0]))
    return draw.choice([tuple(kinds), (draw.choice(kinds),), tuple(kind for kind in kinds if draw.random() < 0.5)])
