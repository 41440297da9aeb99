"""Standing still: who waits for whom, and runs behind which nobody can step."""

from comesthrough.casts import cast_of_plan
from comesthrough.houses import raised_kinds
from comesthrough.runs import is_run, led
from comesthrough.walks import bad_way, end_of, turning_walk


def waits_behind(house, run):
    return _waits_in(led(house, run))


def ring_of(house, run, person):
    return _ring_from(waits_behind(house, run), person)


def ring_words(house, run, person):
    hall = led(house, run)
    waits = _waits_in(hall)
    ring = _ring_from(waits, person)
    if ring is None:
        return None
    ages = hall.ages()
    return ["elder" if ages.index(waits[one]) < ages.index(one) else "younger" for one in ring]


def is_standing_run(house, kind, thing):
    if not is_run(house, thing):
        return False
    programs = thing[0]
    if not programs or programs[0][0] != kind:
        return False
    hall = led(house, thing)
    return not hall.is_ended(0) and not hall.steppers()


def can_stand(house, kind):
    # From a node with "stand" edges lead to such nodes alone, so what is bad ahead of it has both words.
    return any([bad_way(house, ("stand", raised)) is not None for raised in raised_kinds(house, kind)])


def standing_kinds(house):
    return [kind for kind in range(len(house[0])) if can_stand(house, kind)]


def standing_run(house, kind):
    chain = raised_kinds(house, kind)
    for at, raised in enumerate(chain):
        node = ("stand", raised)
        way = bad_way(house, node)
        if way is not None:
            ring = turning_walk(house, end_of(node, way))
            return cast_of_plan(house, chain[:at + 1], way, ring).story()
    return None


def _waits_in(hall):
    waits = [(person, hall.waits_for(person)) for person in range(hall.persons_many())]
    return {person: other for person, other in waits if other is not None}


def _ring_from(waits, person):
    """The ring into which these waits lead from a person, from its least person on, or None."""
    seen = []
    here = person
    while here in waits and here not in seen:
        seen.append(here)
        here = waits[here]
    if here not in seen:
        return None
    ring = seen[seen.index(here):]
    least = ring.index(min(ring))
    return ring[least:] + ring[:least]
