"""Graphs that are asked again and again, each time with other edges."""

from comesthrough.nodes import is_moving


class Web:
    """The nodes of a graph, or spots; a LOT of edges between them is an integer that has a bit for each.

    What joins two lots is a plain |, and a lot is asked without going from edge to edge: so hundreds of houses that
    differ by a few words can be asked one behind the other. Firsts are nodes, too, but such that no edge leads to
    them: a lot needs no bits for that, and stays a good deal shorter.
    """

    def __init__(self, house, nodes, firsts):
        self._many = len(nodes)
        self._numbers = {node: number for number, node in enumerate(nodes + firsts)}
        self._moving = sum([1 << number for number, node in enumerate(nodes) if is_moving(house, node)])

    def lot(self, edges):
        """The lot that has just these edges."""
        lot = 0
        for node, other, word in edges:
            row = 2 * self._numbers[node] + (1 if word == "younger" else 0)
            lot |= 1 << (row * self._many + self._numbers[other])
        return lot

    def leads_into_bad(self, lot, nodes):
        """Tell whether by these edges one of nodes lies in a bad knot, or a way leads from it into one."""
        return self._leads(lot, nodes, False)

    def leads_into_young(self, lot, nodes):
        """Tell whether one of nodes lies in a knot with an edge "younger", or a way leads from it into one."""
        return self._leads(lot, nodes, True)

    def _leads(self, lot, nodes, is_young_enough):
        # For each node the nodes to which edges lead from it, one bit for each.
        rows = [(lot >> (at * self._many)) & ((1 << self._many) - 1) for at in range(2 * len(self._numbers))]
        elder, younger = rows[::2], rows[1::2]
        ahead = [one | other for one, other in zip(elder, younger)]
        for via in range(self._many):
            further = ahead[via]
            ahead = [row | further if (row >> via) & 1 else row for row in ahead]
        ends = 0
        for knot in _knots_among(ahead[:self._many]):
            if _has_edge(younger, knot) and (is_young_enough or _has_edge(elder, knot) or knot & self._moving):
                ends |= knot
        numbers = [self._numbers[node] for node in nodes]
        return any([((1 << number) | ahead[number]) & ends for number in numbers])


def _knots_among(ahead):
    """The knots, one bit for each of their nodes: in each of them all nodes lead to the same nodes."""
    knots = {}
    for number, row in enumerate(ahead):
        if (row >> number) & 1:
            knots[row] = knots.get(row, 0) | (1 << number)
    return [knots[row] for row in knots]


def _has_edge(rows, knot):
    """Tell whether some of these edges lead from a node of a knot to another one of it."""
    return any([(knot >> number) & 1 and row & knot for number, row in enumerate(rows)])
