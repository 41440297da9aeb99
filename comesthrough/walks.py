"""Walks along the edges of a house."""

from comesthrough.forms import is_tuple
from comesthrough.knots import is_bad_by, knots_by
from comesthrough.nodes import edges_from, edges_of, is_moving, is_node


def is_walk(house, thing):
    if not (isinstance(thing, tuple) and all([_has_edge_form(house, edge) for edge in thing])):
        return False
    edges = edges_of(house)
    if not all([edge in edges for edge in thing]):
        return False
    return all([edge[1] == thing[at + 1][0] for at, edge in enumerate(thing[:-1])])


def way_to(house, node, nodes):
    return way_by(edges_of(house), node, nodes)


def bad_way(house, node):
    return way_by(edges_of(house), node, bad_nodes(house))


def bad_nodes(house):
    """The ascending list of the nodes of all bad knots."""
    return bad_by(house, edges_of(house))


def bad_by(house, edges):
    """The ascending list of the nodes of all bad knots of these edges."""
    return sorted([node for knot in knots_by(edges) if is_bad_by(house, edges, knot) for node in knot])


def is_turning(house, walk):
    words = [edge[2] for edge in walk]
    return _turns("elder" in words, "younger" in words, any([is_moving(house, edge[0]) for edge in walk]))


def turning_walk(house, node):
    return turning_by(house, edges_of(house), node)


def way_by(edges, node, nodes):
    """As few of these edges as can be, one behind the other, from a node to one of nodes, or None."""
    def behind(_, edge):
        return (edge[1],)

    def is_end(state):
        return state[0] in nodes

    return _shortest(edges, (node,), behind, is_end)


def turning_by(house, edges, node):
    """As few of these edges as can be that are a closed walk from a node which is turning, or None."""
    def behind(state, edge):
        _, elder, younger, moving = state
        _, other, word = edge
        return (other, elder or word == "elder", younger or word == "younger", moving or is_moving(house, other))

    def is_end(state):
        return state[0] == node and _turns(state[1], state[2], state[3])

    return _shortest(edges, (node, False, False, is_moving(house, node)), behind, is_end)


def young_by(edges, node):
    """As few of these edges as can be that are a closed walk from a node with an edge "younger", or None."""
    def behind(state, edge):
        return (edge[1], state[1] or edge[2] == "younger")

    def is_end(state):
        return state == (node, True)

    return _shortest(edges, (node, False), behind, is_end)


def is_closed(house, thing):
    """Tell whether a value is a closed walk."""
    return is_walk(house, thing) and len(thing) > 0 and thing[-1][1] == thing[0][0]


def end_of(node, walk):
    """Where a walk ends that begins at a node."""
    return walk[-1][1] if walk else node


def _turns(elder, younger, moving):
    """Tell whether a closed walk with these words, or with a moving node, is a turning one."""
    return younger and (elder or moving)


def _has_edge_form(house, thing):
    if not (is_tuple(3, thing) and is_node(house, thing[0]) and is_node(house, thing[1])):
        return False
    return isinstance(thing[2], str)


def _shortest(edges, start, behind, is_end):
    """The fewest edges, as a tuple, that lead from a state to one that is an end, or None.

    The node of a state is its first item; behind(state, edge) is the state behind an edge.
    """
    leading = edges_from(edges)
    ways = {start: ()}
    front = [start]
    while front:
        for state in front:
            if is_end(state):
                return ways[state]
        fresh = []
        for state in front:
            for edge in leading.get(state[0], []):
                other = behind(state, edge)
                if other not in ways:
                    ways[other] = ways[state] + (edge,)
                    fresh.append(other)
        front = fresh
    return None
