"""Open houses, into which new programs come without end: who comes through there, and who does not, and why."""

from comesthrough.forms import is_integer, is_place, is_tuple
from comesthrough.houses import outs_at, raised_kinds
from comesthrough.knots import knots_by
from comesthrough.nodes import all_nodes, edges_of, is_moving, nodes_of, word_of
from comesthrough.walks import end_of, is_closed, is_walk, way_by, young_by


def outs_of(house, kind):
    return [(place, word_of(house, place)) for place in outs_at(house, kind)]


def comes_through_open(house, kind):
    return _way_of(house, kind) is None


def open_kinds(house):
    return [kind for kind in range(len(house[0])) if comes_through_open(house, kind)]


def open_reason(house, kind):
    found = _way_of(house, kind)
    if found is None:
        return None
    raises, start, way = found
    node = end_of(start, way)
    outs = fitting_outs(house, node)
    return (raises, way, outs[0] if outs else young_by(edges_of(house), node))


def is_open_reason(house, kind, thing):
    if not is_tuple(3, thing):
        return False
    raises, way, what = thing
    if not (_are_raises(house, kind, raises) and is_walk(house, way)):
        return False
    starts = nodes_of(house, raises[-1])
    if way and way[0][0] not in starts:
        return False
    ends = [way[-1][1]] if way else starts
    if is_closed(house, what):
        return what[0][0] in ends and "younger" in [edge[2] for edge in what]
    return _has_out_form(house, what) and any([what in fitting_outs(house, node) for node in ends])


def open_ends(house):
    """The ascending list of the nodes at which newcomers themselves can hold somebody off."""
    edges = edges_of(house)
    young = [node for knot in knots_by(edges) if _is_young_by(edges, knot) for node in knot]
    return [node for node in all_nodes(house) if node in young or fitting_outs(house, node)]


def fitting_outs(house, node):
    """The ascending list of the outs by which newcomers can put out who is at a node for ever, again and again."""
    return [out for out in outs_of(house, node[1]) if is_fitting(house, node, out[1])]


def is_fitting(house, node, word):
    """Tell whether who is at a node for ever can be put out again and again by newcomers that are this to it then."""
    return node[0] == "anew" and (word == "younger" or is_moving(house, node))


def _way_of(house, kind):
    """A tuple (raises, node, way): kinds to which the kind is raised, a node of the last one, a way to an open end."""
    edges = edges_of(house)
    ends = open_ends(house)
    chain = raised_kinds(house, kind)
    for at, raised in enumerate(chain):
        for node in nodes_of(house, raised):
            way = way_by(edges, node, ends)
            if way is not None:
                return (chain[:at + 1], node, way)
    return None


def _is_young_by(edges, knot):
    return "younger" in [edge[2] for edge in edges if edge[0] in knot and edge[1] in knot]


def _are_raises(house, kind, thing):
    if not (isinstance(thing, tuple) and len(thing) > 0 and all([is_integer(one) for one in thing])):
        return False
    return thing == raised_kinds(house, kind)[:len(thing)]


def _has_out_form(house, thing):
    return is_tuple(2, thing) and is_place(house, thing[0]) and isinstance(thing[1], str)
