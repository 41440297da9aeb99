"""Open houses: stories and streams in which kinds are held off, and papers that others come through."""

from comesthrough.casts import Cast, helper_at, helper_for, helper_program, helper_start
from comesthrough.held import can_be_held
from comesthrough.knots import ranks_by
from comesthrough.newcomers import fitting_outs, open_ends, open_reason
from comesthrough.nodes import all_nodes, edges_of, places_of_edge
from comesthrough.rankings import is_ranked, nodes_ever
from comesthrough.stories import held_story, is_story
from comesthrough.streams import goes_on, is_stream, program_in, stream_holds
from comesthrough.walks import way_by


def open_story(house, kind):
    if can_be_held(house, kind):
        return held_story(house, kind)
    reason = open_reason(house, kind)
    if reason is None:
        return None
    raises, way, what = reason
    # As nobody of this kind is held off in the closed house, and the way is as short as can be, only its last node can
    # be moving, and then it is the only one; and a closed walk is one of nodes with "stand", all its words "younger".
    if isinstance(what[-1], str):
        return _stream_of_outs(house, raises, way, what[0])
    return _stream_of_waits(house, raises, way, what)


def is_open_story(house, kind, thing):
    if is_story(house, kind, thing):
        return True
    if not (is_stream(house, thing) and thing[0][0][0] == kind and goes_on(house, thing)):
        return False
    return 0 in stream_holds(house, thing)


def open_ranking(house):
    edges = edges_of(house)
    ends = open_ends(house)
    nodes = [node for node in all_nodes(house) if way_by(edges, node, ends) is None]
    return ranks_by([edge for edge in edges if edge[0] in nodes], nodes)


def is_open_ranking(house, thing):
    if not is_ranked(house, thing) or any([len(fitting_outs(house, node)) > 0 for node in thing]):
        return False
    return all([_is_ranked_along(thing, edge) for edge in edges_of(house) if edge[0] in thing])


def shown_open(house, ranking):
    kinds = range(len(house[0]))
    return [kind for kind in kinds if all([node in ranking for node in nodes_ever(house, kind)])]


def _is_ranked_along(ranking, edge):
    node, other, word = edge
    if other not in ranking:
        return False
    return ranking[other] < ranking[node] or (ranking[other] == ranking[node] and word == "elder")


def _stream_of_outs(house, raises, way, place):
    """A stream in which the last one of a way is put out in each lap by a newcomer, as the judge says at a place."""
    comer = helper_at(house, place)
    # Whom an elder newcomer puts out is moving, so it is person 0 and alone. It is out behind each lap, to begin behind
    # the newcomer, and without an age, also ahead of the first lap: a helper like the newcomers puts it out there.
    cast = _open_cast(house, raises, [comer] if comer[3] else [], way, ("anew", raises[-1]), place)
    programs = cast.programs()
    new, last = len(programs), len(way)
    kind, deeds = helper_program(comer, _free_number(raises, way) if comer[2] else cast.lost_lock(last)[1])
    fresh = (kind, tuple([deed if deed == "work" else deed + (0,) for deed in deeds]))
    meeting = cast.turn(last) + ([new] if comer[2] else [new, new])
    if comer[3]:
        row = cast.begins()[:-1]
        again = helper_start(comer, new) + cast.rise(last) + meeting
    else:
        row = cast.begins() + cast.settles()
        again = [step for person in range(last) for step in cast.turn(person) + cast.rise(person)]
        again.extend(helper_start(comer, new) + meeting + cast.rise(last))
    return (programs, tuple(row), (fresh,), _told_steps(again, new, 1, 0))


def _stream_of_waits(house, raises, way, ring):
    """A stream in which the last one of a way waits for the first newcomer, each of these for the next one.

    They are one for each edge of the ring in each lap; the first ones stand for the lap ahead of the first one.
    """
    places = [places_of_edge(house, node, other, word)[0] for node, other, word in ring]
    cast = _open_cast(house, raises, [], way, ring[0][0], places[0])
    programs = cast.programs()
    olds, many = len(programs), len(ring)
    first = _free_number(raises, way) + many
    locks = [(place[0], first + at, many) for at, place in enumerate(places + places[:1])]
    fresh = [(edge[1][1], (locks[at], locks[at + 1])) for at, edge in enumerate(ring)]
    before = list(range(olds, olds + many))
    now = list(range(olds + many, olds + 2 * many))
    row = cast.begins() + before + before + cast.settles() + before[:-1]
    again = cast.lap() + now + now + before[-1:] + now[:-1]
    programs = programs + tuple([program_in(program, -1) for program in fresh])
    return (programs, tuple(row), tuple(fresh), _told_steps(again, olds, many, 1))


def _free_number(raises, way):
    """A number that no lock has which old persons hold."""
    return 2 * (len(raises) + len(way) + 1)


def _open_cast(house, raises, more, way, node, place):
    """The Cast of a person for each node of a way, which begins at this node if it is empty.

    The last one is held off, as the judge says at the place, at a lock with the number of _free_number. Behind those
    by whom it is raised more helpers put person 0 out.
    """
    nodes = [edge[0] for edge in way] + [way[-1][1] if way else node]
    places = [places_of_edge(house, one, other, word)[0] for one, other, word in way] + [place]
    others = list(range(1, len(nodes))) + [_free_number(raises, way)]
    helpers = [helper_for(house, kind) for kind in raises[:-1]] + more
    links = [(one, other, at) for one, other, at in zip(nodes, others, places)]
    return Cast(house, raises[0], helpers, links, len(nodes))


def _told_steps(row, olds, many, span):
    """The steps of a lap: who is not old is numbered from the laps on that stand ahead of the first one, lap by lap."""
    return tuple([
        ("old", person) if person < olds else ("new", (person - olds) % many, span - (person - olds) // many)
        for person in row
    ])
