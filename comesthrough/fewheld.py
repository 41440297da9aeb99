"""Being held off by few persons, without being raised."""

from comesthrough.forms import is_integer, is_tuple
from comesthrough.nodes import edges_from, edges_of, is_moving, nodes_of
from comesthrough.stories import story_of
from comesthrough.walks import is_closed, is_turning, is_walk


def few_held(house, kind):
    short = short_plan(house, kind)
    if short is None:
        return None
    return (len(short[1]) + len(short[2]), plan_cost(house, cheap_plan(house, kind)))


def short_plan(house, kind):
    return _short_plan(house, kind, None)


def cheap_plan(house, kind):
    weights = {edge: _edge_cost(house, edge) for edge in edges_of(house)}
    return _lightest(house, kind, weights, 1, None)


def plan_cost(house, plan):
    return 1 + sum([_edge_cost(house, edge) for edge in plan[1] + plan[2]])


def is_plan(house, kind, thing):
    if not is_tuple(3, thing):
        return False
    raises, way, ring = thing
    if not (is_tuple(1, raises) and is_integer(raises[0]) and raises[0] == kind):
        return False
    if not (is_walk(house, way) and is_closed(house, ring) and is_walk(house, way + ring)):
        return False
    return (way + ring)[0][0] in nodes_of(house, kind) and is_turning(house, ring)


def few_story(house, kind):
    plan = cheap_plan(house, kind)
    return None if plan is None else story_of(house, plan)


def has_few(house, kind, most):
    """Tell whether there is a plan of a kind of at most so many edges, two or more of them in its ring."""
    return _short_plan(house, kind, most) is not None


def _short_plan(house, kind, most):
    return _lightest(house, kind, {edge: 1 for edge in edges_of(house)}, 2, most)


def _edge_cost(house, edge):
    return 2 if is_moving(house, edge[1]) else 1


def _lightest(house, kind, weights, least, most):
    """The plan of a kind whose edges have least weight, but at most most, if this is not None; None if there is none.

    Its ring has at least so many edges. What is kept of each plan that is begun is a STATE: where it is, where its
    ring begins (None on the way), and of the ring the words, whether it moves, and how many edges it has, up to least.
    """
    leading = edges_from(list(weights))
    done = set()
    begun = {0: [((node, None, (), False, 0), (), ()) for node in nodes_of(house, kind)]}
    weight = 0
    while begun and (most is None or weight <= most):
        front = begun.pop(weight, [])
        for state, way, ring in front:
            if state in done:
                continue
            done.add(state)
            if _is_whole(state, least):
                return ((kind,), way, ring)
            for edge in leading.get(state[0], []):
                later = begun.setdefault(weight + weights[edge], [])
                if state[1] is None:
                    later.append(((edge[1],) + state[1:], way + (edge,), ring))
                later.append((_state_behind(house, state, edge, least), way, ring + (edge,)))
        weight += 1
    return None


def _is_whole(state, least):
    node, first, words, moving, many = state
    return node == first and many == least and "younger" in words and ("elder" in words or moving)


def _state_behind(house, state, edge, least):
    """The state behind an edge of the ring."""
    node, first, words, moving, many = state
    return (
        edge[1],
        node if first is None else first,
        tuple(sorted(set(words + (edge[2],)))),
        moving or is_moving(house, node),
        min(many + 1, least),
    )
