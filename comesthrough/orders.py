"""Orders in which locks are taken, and who can be held off though all keep to one."""

from comesthrough.casts import cast_along
from comesthrough.errors import NotMeek
from comesthrough.forms import is_index, is_integer, is_tuple, is_work
from comesthrough.houses import is_meek, places_of, word_at
from comesthrough.knots import is_bad_by, knots_by
from comesthrough.nodes import is_left_out, word_of
from comesthrough.stories import is_story
from comesthrough.walks import bad_by, turning_by, way_by


def is_order(house, thing):
    if not (isinstance(thing, tuple) and all([_is_couple(house, couple) for couple in thing])):
        return False
    return thing == tuple(sorted(set(thing)))


def first_unordered(order, program):
    taken = []
    for index, deed in enumerate(program[1]):
        if not is_work(deed):
            if not all([(sort, deed[0]) in order for sort in taken]):
                return index
            taken.append(deed[0])
    return None


def row_order(house, row):
    return tuple(sorted([(sort, later) for at, sort in enumerate(row) for later in row[at + 1:]]))


def ask_meek(house):
    """Raise NotMeek if a house is not meek."""
    if not is_meek(house):
        raise NotMeek()


def is_spot(house, thing):
    """Tell whether any value is a spot of a meek house."""
    if not (is_tuple(3, thing) and isinstance(thing[0], str) and thing[0] in ("anew", "stand")):
        return False
    return is_index(len(house[0]), thing[1]) and is_integer(thing[2]) and -1 <= thing[2] < len(house[1])


def spots_of(house):
    ask_meek(house)
    sorts = range(-1, len(house[1]))
    kinds = range(len(house[0]))
    return [(word, kind, sort) for word in ("anew", "stand") for kind in kinds for sort in sorts]


def order_edges(house, order):
    ask_meek(house)
    edges = [edge for place in places_of(house) for edge in _edges_at(house, order, place)]
    return sorted(set([edge for edge in edges if not is_left_out(house, edge)]))


def order_knots(house, order):
    return knots_by(order_edges(house, order))


def bad_knots(house, order):
    edges = order_edges(house, order)
    return [knot for knot in knots_by(edges) if is_bad_by(house, edges, knot)]


def can_be_held_by(house, order, kind):
    return _way_of(house, order, kind) is not None


def held_by_order(house, order, kind):
    way = _way_of(house, order, kind)
    if way is None:
        return None
    edges = way + turning_by(house, order_edges(house, order), way[-1][1])
    places = [_place_of(edge) for edge in edges]
    return cast_along(house, kind, [], [edge[0] for edge in edges], places, len(way)).story()


def is_held_by(house, order, kind, thing):
    ask_meek(house)
    return is_story(house, kind, thing) and all([first_unordered(order, program) is None for program in thing[0]])


def _is_couple(house, thing):
    return is_tuple(2, thing) and is_index(len(house[1]), thing[0]) and is_index(len(house[1]), thing[1])


def _edges_at(house, order, place):
    """The edges between spots that the word at a place makes, left out or not."""
    sort, asker, holder, _ = place
    ahead = [-1] + [held for held, taken in order if taken == sort]
    word = word_of(house, place)
    if word_at(house, place) == "wait":
        return [(("stand", asker, held), ("stand", holder, sort), word) for held in ahead]
    return [(("anew", asker, held), (form, holder, sort), word) for held in ahead for form in ("anew", "stand")]


def _place_of(edge):
    """The place that makes an edge between spots."""
    node, other, word = edge
    return (other[2], node[1], other[1], 0 if word == "younger" else 1)


def _way_of(house, order, kind):
    """A way from a spot of a kind that is not asked into a bad knot, or None; it has an edge, as none leads there."""
    edges = order_edges(house, order)
    bad = bad_by(house, edges)
    for word in ("anew", "stand"):
        way = way_by(edges, (word, kind, -1), bad)
        if way is not None:
            return way
    return None
