"""Standing still by as few persons as can be."""

from comesthrough.casts import cast_of_plan
from comesthrough.nodes import edges_of
from comesthrough.walks import turning_walk, way_to


def few_standing(house, kind):
    walk = _few_walk(house, kind)
    return None if walk is None else len(walk[0]) + len(walk[1])


def few_run(house, kind):
    walk = _few_walk(house, kind)
    return None if walk is None else cast_of_plan(house, (kind,), walk[0], walk[1]).story()


def few_ring(house):
    if not any([turning_walk(house, node) is not None for node in _stand_nodes(house)]):
        return None
    edges = [edge for edge in edges_of(house) if edge[0][0] == "stand"]
    # The least kinds by which one comes so far: from a first kind to a node, along edges with these words.
    front = {(node, node, ()): (node[1],) for node in _stand_nodes(house)}
    while True:
        front = _one_further(edges, front)
        rings = [kinds[:-1] for (first, node, words), kinds in front.items() if first == node and len(words) == 2]
        if rings:
            return min(rings)


def _stand_nodes(house):
    return [("stand", kind) for kind in range(len(house[0]))]


def _few_walk(house, kind):
    """A way from the node with "stand" of a kind, and a closed walk from its end that has both words, or None.

    They have as few edges, together, as can be.
    """
    walks = []
    for node in _stand_nodes(house):
        way = way_to(house, ("stand", kind), (node,))
        ring = turning_walk(house, node)
        if way is not None and ring is not None:
            walks.append((len(way) + len(ring), way, ring))
    return min(walks)[1:] if walks else None


def _one_further(edges, front):
    """What few_ring keeps, one edge further."""
    fresh = {}
    for (first, node, words), kinds in front.items():
        for edge in edges:
            if edge[0] == node:
                there = (first, edge[1], tuple(sorted(set(words + (edge[2],)))))
                fresh[there] = min(fresh.get(there, kinds + (edge[1][1],)), kinds + (edge[1][1],))
    return fresh
