"""What an order is good for: which couples of it have to be forbidden so that kinds come through."""

from comesthrough.lots import least_lots
from comesthrough.orders import order_edges, spots_of
from comesthrough.webs import Web


def held_by_orders(house, order):
    web = _web_of(house)
    lot = web.lot(order_edges(house, order))
    return [kind for kind in range(len(house[0])) if _are_held(web, lot, (kind,))]


def least_forbidden(house, order, kinds):
    web = _web_of(house)
    # Each couple brings edges by itself, and some are there without any.
    always = web.lot(order_edges(house, ()))
    lots = {couple: web.lot(order_edges(house, (couple,))) for couple in order}

    def is_enough(forbidden):
        lot = always
        for couple in order:
            if couple not in forbidden:
                lot = lot | lots[couple]
        return not _are_held(web, lot, kinds)

    return least_lots(order, is_enough)


def greatest_orders(house, kinds):
    sorts = range(len(house[1]))
    every = tuple([(one, other) for one in sorts for other in sorts])
    # With fewer couples nobody more is held off, so what is left by a least lot is an order that is greatest.
    lots = least_forbidden(house, every, kinds)
    return sorted([tuple([couple for couple in every if couple not in lot]) for lot in lots])


def needless_couples(house, order, kind):
    needed = [couple for lot in least_forbidden(house, order, (kind,)) for couple in lot]
    return [couple for couple in order if couple not in needed]


def _web_of(house):
    """The Web of the spots of a house; to those with the sort -1 no edge leads."""
    spots = spots_of(house)
    return Web(house, [spot for spot in spots if spot[2] != -1], [spot for spot in spots if spot[2] == -1])


def _are_held(web, lot, kinds):
    """Tell whether one of kinds can be held off by ordered programs, these being the edges."""
    return web.leads_into_bad(lot, [(word, kind, -1) for word in ("anew", "stand") for kind in kinds])
