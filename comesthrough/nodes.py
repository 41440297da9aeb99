"""The nodes and the edges of a house."""

from comesthrough.forms import is_index, is_tuple
from comesthrough.houses import is_last, places_of, word_at

# What the other one is, by the side of a place: seen by the asker, and seen by the holder.
HOLDERS = ("younger", "elder")
ASKERS = ("elder", "younger")


def all_nodes(house):
    kinds = range(len(house[0]))
    return [("anew", kind) for kind in kinds if is_last(house, kind)] + [("stand", kind) for kind in kinds]


def is_node(house, thing):
    if not (is_tuple(2, thing) and isinstance(thing[0], str) and is_index(len(house[0]), thing[1])):
        return False
    return thing[0] == "stand" or (thing[0] == "anew" and is_last(house, thing[1]))


def is_moving(house, node):
    return node[0] == "anew" and not house[0][node[1]][1]


def nodes_of(house, kind):
    """The ascending list of the nodes of one kind."""
    return [("anew", kind), ("stand", kind)] if is_last(house, kind) else [("stand", kind)]


def word_of(house, place):
    """What the other one is, at a place, to who waits or is put out there."""
    return word_by(place, word_at(house, place))


def word_by(place, said):
    """What the other one is, at a place, to who waits or is put out there if the judge says this."""
    return ASKERS[place[3]] if said == "oust" else HOLDERS[place[3]]


def edges_of(house):
    return [edge for edge in _all_edges(house) if not is_left_out(house, edge)]


def left_out(house):
    return [edge for edge in _all_edges(house) if is_left_out(house, edge)]


def places_of_edge(house, node, other, word):
    edge = (node, other, word)
    return [place for place in places_of(house) if edge in edges_by(house, place, word_at(house, place))]


def next_nodes(house, node):
    return heads_of(edges_of(house), node)


def nodes_ahead(house, node):
    return heads_ahead(edges_of(house), node)


def is_left_out(house, edge):
    """Tell whether an edge is left out, for moving and fixed nodes are at its ends."""
    node, other, word = edge
    if is_moving(house, node):
        return word == "younger" and not is_moving(house, other)
    return word == "elder" and is_moving(house, other)


def edges_from(edges):
    """A dict from the nodes from which these edges lead to the lists of these."""
    leading = {}
    for edge in edges:
        leading.setdefault(edge[0], []).append(edge)
    return leading


def heads_of(edges, node):
    """The ascending list of the nodes to which one of these edges leads from a node."""
    return sorted(set([edge[1] for edge in edges if edge[0] == node]))


def heads_ahead(edges, node):
    """The ascending list of the nodes to which one or more of these edges lead from a node."""
    leading = edges_from(edges)
    ahead = set()
    left = [node]
    while left:
        here = left.pop()
        for edge in leading.get(here, []):
            if edge[1] not in ahead:
                ahead.add(edge[1])
                left.append(edge[1])
    return sorted(ahead)


def edges_by(house, place, said):
    """The edges that there are, left out or not, if the judge says this at a place."""
    _, asker, holder, _ = place
    word = word_by(place, said)
    edges = []
    if said == "wait":
        edges.append((("stand", asker), ("stand", holder), word))
    if said == "yield" and is_last(house, asker):
        edges.append((("anew", asker), ("stand", holder), word))
        if is_last(house, holder):
            edges.append((("anew", asker), ("anew", holder), word))
    if said == "oust" and is_last(house, asker) and is_last(house, holder):
        edges.append((("anew", holder), ("anew", asker), word))
    return edges


def _all_edges(house):
    """The ascending list of all edges, those that are left out among them."""
    edges = [edge for place in places_of(house) for edge in edges_by(house, place, word_at(house, place))]
    return sorted(set(edges))
