"""Rings of told kinds, in which each person waits for the next one."""

from comesthrough.casts import cast_of_plan
from comesthrough.nodes import edges_of


def is_ring(house, kinds):
    return _ring_edges(house, kinds) is not None


def ring_run(house, kinds):
    ring = _ring_edges(house, kinds)
    return None if ring is None else cast_of_plan(house, kinds[:1], (), ring).story()


def cross_couples(house):
    kinds = range(len(house[0]))
    return [(one, other) for one in kinds for other in kinds if one <= other and is_ring(house, (one, other))]


def _ring_edges(house, kinds):
    """Edges from each of these kinds to the next one that have not all the same word, as a tuple, or None."""
    edges = edges_of(house)
    steps = [(("stand", one), ("stand", other)) for one, other in zip(kinds, kinds[1:] + kinds[:1])]
    choices = [[edge for edge in edges if (edge[0], edge[1]) == step] for step in steps]
    if not all([len(choice) > 0 for choice in choices]):
        return None
    ring = [choice[0] for choice in choices]
    for at, choice in enumerate(choices):
        if not _has_both(ring) and choice[-1][2] != ring[at][2]:
            ring[at] = choice[-1]
    return tuple(ring) if _has_both(ring) else None


def _has_both(edges):
    return len(set([edge[2] for edge in edges])) == 2
