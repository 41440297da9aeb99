"""Who can be held off for ever in closed houses, and how."""

from comesthrough.houses import raised_kinds
from comesthrough.nodes import all_nodes, edges_of, nodes_of
from comesthrough.walks import bad_by, end_of, turning_by, way_by


def can_be_held(house, kind):
    return _way_of(house, kind) is not None


def held_kinds(house):
    return [kind for kind in range(len(house[0])) if can_be_held(house, kind)]


def held_nodes(house):
    edges = edges_of(house)
    bad = bad_by(house, edges)
    return [node for node in all_nodes(house) if way_by(edges, node, bad) is not None]


def held_plan(house, kind):
    found = _way_of(house, kind)
    if found is None:
        return None
    raises, node, way = found
    return (raises, way, turning_by(house, edges_of(house), end_of(node, way)))


def _way_of(house, kind):
    """A tuple (raises, node, way): kinds to which the kind is raised, a node of the last one, a way into a bad knot."""
    edges = edges_of(house)
    bad = bad_by(house, edges)
    chain = raised_kinds(house, kind)
    for at, raised in enumerate(chain):
        for node in nodes_of(house, raised):
            way = way_by(edges, node, bad)
            if way is not None:
                return (chain[:at + 1], node, way)
    return None
