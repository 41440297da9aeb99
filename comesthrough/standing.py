"""Standing still: who waits for whom, and runs behind which nobody can step."""

from comesthrough.houses import outs_at, raised_kinds, word_at
from comesthrough.nodes import places_of_edge
from comesthrough.runs import is_run, led
from comesthrough.walks import bad_way, end_of, turning_walk


def waits_behind(house, run):
    return _waits_in(led(house, run))


def ring_of(house, run, person):
    return _ring_from(waits_behind(house, run), person)


def ring_words(house, run, person):
    hall = led(house, run)
    waits = _waits_in(hall)
    ring = _ring_from(waits, person)
    if ring is None:
        return None
    ages = hall.ages()
    return ["elder" if ages.index(waits[one]) < ages.index(one) else "younger" for one in ring]


def is_standing_run(house, kind, thing):
    if not is_run(house, thing):
        return False
    programs = thing[0]
    if not programs or programs[0][0] != kind:
        return False
    hall = led(house, thing)
    return not hall.is_ended(0) and not hall.steppers()


def can_stand(house, kind):
    # From a node with "stand" edges lead to such nodes alone, so what is bad ahead of it has both words.
    return any([bad_way(house, ("stand", raised)) is not None for raised in raised_kinds(house, kind)])


def standing_kinds(house):
    return [kind for kind in range(len(house[0])) if can_stand(house, kind)]


def standing_run(house, kind):
    chain = raised_kinds(house, kind)
    for raises, raised in enumerate(chain):
        node = ("stand", raised)
        way = bad_way(house, node)
        if way is not None:
            ring = turning_walk(house, end_of(node, way))
            helpers = [helper_for(house, one) for one in chain[:raises]]
            return _run_along(house, kind, helpers, way, ring)
    return None


def helper_for(house, kind):
    """Who can put out person 0 while it is of a kind: a tuple (sort, kind, yields, elder).

    It is met at a lock of this sort; person 0 yields to it, or it ousts person 0; it is elder than that or younger.
    """
    place = outs_at(house, kind)[0]
    sort, asker, holder, side = place
    if word_at(house, place) == "yield":
        return (sort, holder, True, side == 1)
    return (sort, asker, False, side == 0)


def helper_program(helper, number):
    """The program of a helper who is met at the lock with this number."""
    sort, kind, yields, _ = helper
    lock = (sort, number)
    # Who is yielded to has to hold the lock still, and so has something left to do.
    return (kind, (lock, "work")) if yields else (kind, (lock,))


def helper_start(helper, person):
    """The steps by which a helper comes to where it meets person 0."""
    return [person, person] if helper[2] else [person]


def raising_row(helpers, first):
    """The steps by which helpers, who are numbered from first on, put person 0 out one behind the other.

    The lock at which it meets a helper is the deed of person 0 with the index of this helper. Elder helpers have
    done what helper_start tells; each helper is ended at the end.
    """
    row = []
    for index, helper in enumerate(helpers):
        person = first + index
        row.append(0)
        if not helper[3]:
            row.extend(helper_start(helper, person))
        row.extend([0] * (index + 1))
        row.extend([person] if helper[2] else [person, person])
    return row


def eldest_first(links):
    """The persons from 0 on, one for each link (other, word), by age: word is what the other is to the person."""
    elders = [[other] if word == "elder" else [] for other, word in links]
    for person, link in enumerate(links):
        if link[1] == "younger":
            elders[link[0]].append(person)
    order = []
    while len(order) < len(links):
        for person in range(len(links)):
            if person not in order and all([elder in order for elder in elders[person]]):
                order.append(person)
    return order


def _waits_in(hall):
    waits = [(person, hall.waits_for(person)) for person in range(hall.persons_many())]
    return {person: other for person, other in waits if other is not None}


def _ring_from(waits, person):
    """The ring into which these waits lead from a person, from its least person on, or None."""
    seen = []
    here = person
    while here in waits and here not in seen:
        seen.append(here)
        here = waits[here]
    if here not in seen:
        return None
    ring = seen[seen.index(here):]
    least = ring.index(min(ring))
    return ring[least:] + ring[:least]


def _run_along(house, kind, helpers, way, ring):
    """A run in which helpers raise person 0, and then a person for each edge waits along the way and round the ring."""
    edges = way + ring
    many = len(edges)
    others = [person + 1 for person in range(many - 1)] + [len(way)]
    locks = [(places_of_edge(house, node, other, word)[0][0], at) for at, (node, other, word) in enumerate(edges)]
    programs = []
    for person, edge in enumerate(edges):
        held = [lock for lock, other in zip(locks, others) if other == person]
        programs.append((edge[0][1], tuple(held + [locks[person]])))
    met = [(helper[0], many + index) for index, helper in enumerate(helpers)]
    programs[0] = (kind, tuple(met) + programs[0][1])
    programs.extend([helper_program(helper, many + index) for index, helper in enumerate(helpers)])
    order = eldest_first([(other, edge[2]) for other, edge in zip(others, edges)])
    return (tuple(programs), tuple(_row_along(programs, helpers, order)))


def _row_along(programs, helpers, order):
    """The steps of _run_along: who stands in the end begins in this order."""
    many = len(order)
    at = order.index(0)
    row = order[:at]
    for index, helper in enumerate(helpers):
        if helper[3]:
            row.extend(helper_start(helper, many + index))
    row.extend(raising_row(helpers, many))
    row.extend(order[at:])
    for person in range(many):
        row.extend([person] * (len(programs[person][1]) - 1))
    row.extend(order)
    return row
