"""The other side of standing still: papers that show of kinds that they cannot stand."""

from comesthrough.forms import is_index, is_integer, is_tuple
from comesthrough.houses import raised_kinds
from comesthrough.knots import ranks_by
from comesthrough.nodes import edges_of
from comesthrough.walks import bad_by, way_by


def calm_of(house):
    edges = _stand_edges(house)
    # Nodes with "stand" are fixed, so what is bad among them has both words.
    bad = bad_by(house, edges)
    nodes = [("stand", kind) for kind in range(len(house[0]))]
    calm = [node for node in nodes if way_by(edges, node, bad) is None]
    ranks = ranks_by([edge for edge in edges if edge[0] in calm], calm)
    return {node[1]: (ranks[node], _word_at(edges, ranks, node)) for node in calm}


def is_calm(house, thing):
    if not (isinstance(thing, dict) and all([is_index(len(house[0]), kind) for kind in thing])):
        return False
    if not all([_is_rank(thing[kind]) for kind in thing]):
        return False
    return all([_is_calm_along(thing, edge) for edge in _stand_edges(house) if edge[0][1] in thing])


def shown_calm(house, calm):
    kinds = range(len(house[0]))
    return [kind for kind in kinds if all([raised in calm for raised in raised_kinds(house, kind)])]


def _stand_edges(house):
    return [edge for edge in edges_of(house) if edge[0][0] == "stand"]


def _word_at(edges, ranks, node):
    """The word of all edges between nodes of the integer that this node has; any one if there are none."""
    for edge in edges:
        if edge[0] in ranks and ranks[edge[0]] == ranks[node] == ranks[edge[1]]:
            return edge[2]
    return "elder"


def _is_rank(thing):
    if not (is_tuple(2, thing) and is_integer(thing[0])):
        return False
    return isinstance(thing[1], str) and thing[1] in ("elder", "younger")


def _is_calm_along(calm, edge):
    node, other, word = edge
    if other[1] not in calm:
        return False
    one, after = calm[node[1]], calm[other[1]]
    return after[0] < one[0] or (after[0] == one[0] and one[1] == word == after[1])
