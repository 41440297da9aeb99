"""The knots of a house: nodes each of which leads to each."""

from comesthrough.nodes import edges_of, heads_ahead, is_moving, is_node


def knots_of(house):
    return knots_by(edges_of(house))


def knots_by(edges):
    """The ascending list of all knots of these edges."""
    nodes = sorted(set([edge[0] for edge in edges]))
    ahead = {node: heads_ahead(edges, node) for node in nodes}
    turning = [node for node in nodes if node in ahead[node]]
    return sorted(set([tuple([one for one in ahead[node] if node in ahead.get(one, [])]) for node in turning]))


def knot_of(house, node):
    for knot in knots_of(house):
        if node in knot:
            return knot
    return None


def knot_edges(house, knot):
    return [edge for edge in edges_of(house) if edge[0] in knot and edge[1] in knot]


def words_in(house, knot):
    return tuple(sorted(set([edge[2] for edge in knot_edges(house, knot)])))


def is_bad(house, knot):
    words = words_in(house, knot)
    return len(words) == 2 or ("younger" in words and any([is_moving(house, node) for node in knot]))


def is_young(house, knot):
    return "younger" in words_in(house, knot)


def is_knot(house, thing):
    if not (isinstance(thing, tuple) and all([is_node(house, node) for node in thing])):
        return False
    return thing in knots_of(house)
