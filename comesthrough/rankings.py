"""The other side of being held off: papers that show of kinds that they come through."""

from comesthrough.forms import is_integer
from comesthrough.held import held_nodes
from comesthrough.houses import raised_kinds
from comesthrough.knots import ranks_by
from comesthrough.nodes import all_nodes, edges_of, is_moving, is_node, nodes_of


def ranking_of(house):
    held = held_nodes(house)
    nodes = [node for node in all_nodes(house) if node not in held]
    return ranks_by([edge for edge in edges_of(house) if edge[0] in nodes], nodes)


def is_ranking(house, thing):
    if not is_ranked(house, thing):
        return False
    edges = [edge for edge in edges_of(house) if edge[0] in thing]
    return all([edge[1] in thing for edge in edges]) and does_not_turn(house, edges, thing)


def shown_through(house, ranking):
    kinds = range(len(house[0]))
    return [kind for kind in kinds if all([node in ranking for node in nodes_ever(house, kind)])]


def is_ranked(house, thing):
    """Tell whether a value is a dict from nodes to integers."""
    if not (isinstance(thing, dict) and all([is_node(house, node) for node in thing])):
        return False
    return all([is_integer(thing[node]) for node in thing])


def does_not_turn(house, edges, ranks):
    """Tell whether integers do not grow along edges, and edges between equal ones are as a ranking has them."""
    level = [edge for edge in edges if ranks[edge[0]] == ranks[edge[1]]]
    words = {}
    for edge in level:
        words.setdefault(ranks[edge[0]], edge[2])
    return all([ranks[edge[1]] <= ranks[edge[0]] for edge in edges]) and all(
        [edge[2] == words[ranks[edge[0]]] and not _is_young_and_moving(house, edge) for edge in level]
    )


def nodes_ever(house, kind):
    """All nodes of all kinds to which a program of this kind can be raised."""
    return [node for raised in raised_kinds(house, kind) for node in nodes_of(house, raised)]


def _is_young_and_moving(house, edge):
    return edge[2] == "younger" and (is_moving(house, edge[0]) or is_moving(house, edge[1]))
