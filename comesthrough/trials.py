"""Who comes through, asked again and again, each time with other words of the judge."""

from comesthrough.houses import is_last, places_of, put_out_by, word_at
from comesthrough.newcomers import is_fitting
from comesthrough.nodes import all_nodes, edges_by, is_left_out, nodes_of, word_by
from comesthrough.webs import Web

# Newcomers themselves, who stand in a knot with "younger".
COMER = ("comer", 0)


class Trial:
    """The kinds of a house, of which is asked who comes through if these or those words stand at its places.

    Besides the nodes, its web has ("raised", kind), from which edges lead to the nodes of a kind and, where it is put
    out, to what it is then; and COMER, to which one leads from whom newcomers can put out for ever. So each word
    brings a lot of edges, and all that makes the difference is edges.
    """

    def __init__(self, house):
        self._house = house
        kinds = range(len(house[0]))
        self._web = Web(house, all_nodes(house) + [("raised", kind) for kind in kinds] + [COMER], [])
        edges = [(("raised", kind), node, "elder") for kind in kinds for node in nodes_of(house, kind)]
        self._always = self._web.lot(edges + [(COMER, COMER, "younger")])
        self._lots = {}

    def lot_at(self, place, word):
        """The lot of the edges that a word brings at a place."""
        if (place, word) not in self._lots:
            edges = [edge for edge in edges_by(self._house, place, word) if not is_left_out(self._house, edge)]
            self._lots[(place, word)] = self._web.lot(edges + self._out_edges(place, word))
        return self._lots[(place, word)]

    def lot_of(self, places):
        """The lot of the edges that the words of the house bring at these places alone."""
        lot = 0
        for place in places:
            lot |= self.lot_at(place, word_at(self._house, place))
        return lot

    def are_through(self, lot, kinds, is_open):
        """Tell whether all of kinds come through by these edges."""
        nodes = [("raised", kind) for kind in kinds]
        if is_open:
            return not self._web.leads_into_young(lot | self._always, nodes)
        return not self._web.leads_into_bad(lot | self._always, nodes)

    def _out_edges(self, place, word):
        """The edges that tell what becomes of whom a word puts out at a place."""
        kind = put_out_by(place, word)
        if kind is None:
            return []
        if not is_last(self._house, kind):
            return [(("raised", kind), ("raised", self._house[0][kind][2]), "elder")]
        node = ("anew", kind)
        return [(node, COMER, "younger")] if is_fitting(self._house, node, word_by(place, word)) else []


def all_through(house, kinds, is_open):
    """Tell whether all of kinds come through in a house."""
    trial = Trial(house)
    return trial.are_through(trial.lot_of(places_of(house)), kinds, is_open)
