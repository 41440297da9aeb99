"""Papers that show of a kind that it comes through, whatever ordered programs do."""

from comesthrough.forms import is_integer
from comesthrough.knots import ranks_by
from comesthrough.nodes import heads_ahead
from comesthrough.orders import ask_meek, can_be_held_by, is_spot, order_edges
from comesthrough.rankings import does_not_turn


def order_paper(house, order, kind):
    if can_be_held_by(house, order, kind):
        return None
    edges = order_edges(house, order)
    firsts = _first_spots(kind)
    spots = sorted(set(firsts + [spot for first in firsts for spot in heads_ahead(edges, first)]))
    return ranks_by([edge for edge in edges if edge[0] in spots], spots)


def is_order_paper(house, order, kind, thing):
    ask_meek(house)
    if not (isinstance(thing, dict) and all([is_spot(house, spot) and is_integer(thing[spot]) for spot in thing])):
        return False
    edges = [edge for edge in order_edges(house, order) if edge[0] in thing]
    needed = _first_spots(kind) + [edge[1] for edge in edges]
    return all([spot in thing for spot in needed]) and does_not_turn(house, edges, thing)


def _first_spots(kind):
    """What a program of a kind can do for ever at which nobody asks it for a lock."""
    return [("anew", kind, -1), ("stand", kind, -1)]
