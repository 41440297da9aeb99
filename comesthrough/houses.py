"""Asking a house, and making other houses of it."""

from comesthrough.errors import NoKind, NoSort, NotLater, Taken, TooFew, TooMany

KINDS_MOST = 5
SORTS_MOST = 3


def kind_named(house, name):
    names = _kind_names(house)
    if not (isinstance(name, str) and name in names):
        raise NoKind(name)
    return names.index(name)


def sort_named(house, name):
    if not (isinstance(name, str) and name in house[1]):
        raise NoSort(name)
    return house[1].index(name)


def places_of(house):
    kinds = range(len(house[0]))
    sorts = range(len(house[1]))
    return [(sort, asker, holder, side) for sort in sorts for asker in kinds for holder in kinds for side in (0, 1)]


def word_at(house, place):
    sort, asker, holder, side = place
    return house[2][sort][asker][holder][side]


def is_last(house, kind):
    """Tell whether a kind rises to no other one."""
    return house[0][kind][2] == kind


def last_one(house, kind):
    last = kind
    while not is_last(house, last):
        last = house[0][last][2]
    return last


def put_out_by(place, word):
    """The kind that a word at a place puts out, or None."""
    if word == "wait":
        return None
    return place[1] if word == "yield" else place[2]


def outs_at(house, kind):
    """The ascending list of the places at which a kind is put out, as the asker or as the holder."""
    return [place for place in places_of(house) if put_out_by(place, word_at(house, place)) == kind]


def raised_kinds(house, kind):
    raised = [kind]
    while not is_last(house, raised[-1]) and outs_at(house, raised[-1]):
        raised.append(house[0][raised[-1]][2])
    return tuple(raised)


def is_meek(house):
    ousts = [place for place in places_of(house) if word_at(house, place) == "oust"]
    return not ousts and all([is_last(house, kind) for kind in range(len(house[0]))])


def keeps_all(house):
    return all([kind[1] for kind in house[0]])


def with_word(house, place, word):
    kinds, sorts, judge = house
    return (kinds, sorts, _exchanged(judge, place, word))


def with_keeps(house, kind, keeps):
    kinds, sorts, judge = house
    return (_exchanged(kinds, (kind, 1), keeps), sorts, judge)


def with_rise(house, kind, rise):
    kinds, sorts, judge = house
    return (_exchanged(kinds, (kind, 2), rise), sorts, judge)


def with_kind(house, name, like):
    kinds, sorts, judge = house
    many = len(kinds)
    if many >= KINDS_MOST:
        raise TooMany(KINDS_MOST)
    if name in _kind_names(house):
        raise Taken(name)
    fresh = kinds + ((name, kinds[like][1], many),)
    return (fresh, sorts, _picked(judge, list(range(many)) + [like]))


def with_sort(house, name, like):
    kinds, sorts, judge = house
    if len(sorts) >= SORTS_MOST:
        raise TooMany(SORTS_MOST)
    if name in sorts:
        raise Taken(name)
    return (kinds, sorts + (name,), judge + (judge[like],))


def without_kind(house, kind):
    kinds, sorts, judge = house
    if len(kinds) == 1:
        raise TooFew()
    left = [one for one in range(len(kinds)) if one != kind]
    fresh = [(kinds[one][0], kinds[one][1], left.index(_rise_past(house, one, kind))) for one in left]
    return (tuple(fresh), sorts, _picked(judge, left))


def without_sort(house, sort):
    kinds, sorts, judge = house
    if len(sorts) == 1:
        raise TooFew()
    return (kinds, sorts[:sort] + sorts[sort + 1:], judge[:sort] + judge[sort + 1:])


def reordered(house, order):
    kinds, sorts, judge = house
    for kind in range(len(kinds)):
        if order.index(kinds[kind][2]) < order.index(kind):
            raise NotLater(kind)
    fresh = [(kinds[one][0], kinds[one][1], order.index(kinds[one][2])) for one in order]
    return (tuple(fresh), sorts, _picked(judge, order))


def renamed_house(house, kinds, sorts):
    fresh = [(kinds[name], keeps, rise) for name, keeps, rise in house[0]]
    return (tuple(fresh), tuple([sorts[name] for name in house[1]]), house[2])


def _kind_names(house):
    return [kind[0] for kind in house[0]]


def _rise_past(house, one, kind):
    """The rise of a kind when another one is gone, told by the indexes of the house as it is."""
    rise = house[0][one][2]
    if rise != kind:
        return rise
    return one if is_last(house, kind) else house[0][kind][2]


def _picked(judge, kinds):
    """What the judge says for these kinds, told by their indexes, in this order."""
    return tuple([tuple([tuple([table[asker][holder] for holder in kinds]) for asker in kinds]) for table in judge])


def _exchanged(row, path, thing):
    """A tuple of tuples with another thing at the end of a path of indexes."""
    if not path:
        return thing
    at = path[0]
    return row[:at] + (_exchanged(row[at], path[1:], thing),) + row[at + 1:]
