"""The knots of a house: nodes each of which leads to each."""

from comesthrough.nodes import edges_of, heads_ahead, is_moving, is_node


def knots_of(house):
    return knots_by(edges_of(house))


def knots_by(edges):
    """The ascending list of all knots of these edges."""
    nodes = sorted(set([edge[0] for edge in edges]))
    ahead = {node: heads_ahead(edges, node) for node in nodes}
    turning = [node for node in nodes if node in ahead[node]]
    return sorted(set([tuple([one for one in ahead[node] if node in ahead.get(one, [])]) for node in turning]))


def is_bad_by(house, edges, knot):
    """Tell whether a knot of these edges is bad."""
    words = [edge[2] for edge in edges if edge[0] in knot and edge[1] in knot]
    if "younger" not in words:
        return False
    return "elder" in words or any([is_moving(house, node) for node in knot])


def ranks_by(edges, nodes):
    """A dict from these nodes, from which edges lead to such nodes alone, to integers, which never grow along an edge.

    Only nodes of one knot have the same integer.
    """
    ahead = {node: heads_ahead(edges, node) for node in nodes}
    ranks = {}
    for node in nodes:
        alike = [one for one in nodes if one == node or (one in ahead[node] and node in ahead[one])]
        # Whoever leads to another one, and not back, leads to more nodes than that.
        ranks[node] = (len(set(ahead[node] + [node])), alike[0])
    order = sorted(set([ranks[node] for node in nodes]))
    return {node: order.index(ranks[node]) for node in nodes}


def knot_of(house, node):
    for knot in knots_of(house):
        if node in knot:
            return knot
    return None


def knot_edges(house, knot):
    return [edge for edge in edges_of(house) if edge[0] in knot and edge[1] in knot]


def words_in(house, knot):
    return tuple(sorted(set([edge[2] for edge in knot_edges(house, knot)])))


def is_bad(house, knot):
    return is_bad_by(house, edges_of(house), knot)


def is_young(house, knot):
    return "younger" in words_in(house, knot)


def is_knot(house, thing):
    if not (isinstance(thing, tuple) and all([is_node(house, node) for node in thing])):
        return False
    return thing in knots_of(house)
