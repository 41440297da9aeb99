"""Staying out: who is put out stays so until the person that put it out has been put out or has ended since."""

from comesthrough.errors import BadStep
from comesthrough.houses import word_at
from comesthrough.runs import hall_of


def led_staying(house, run):
    hall, begins, _ = _played(house, run)
    return [(many, hall.is_ended(person)) for person, many in enumerate(begins)]


def charges(house, run):
    return _played(house, run)[2]


def puts_out(house, crew, one, other):
    if one == other:
        return False
    return _sort_of(house, crew, one, other) is not None


def lock_of(house, crew, one, other):
    """The lock of a couple, one of whom can be put out by the other: at such a lock it is."""
    return (_sort_of(house, crew, one, other), one * len(crew) + other)


def crew_round(house, crew):
    rounds = [_round_from(house, crew, person) for person in range(len(crew))]
    found = [(len(one), one) for one in rounds if one is not None]
    return min(found)[1] if found else None


def _sort_of(house, crew, one, other):
    """The least sort in which a person yields to another one, or None."""
    side = 0 if one < other else 1
    for sort in range(len(house[1])):
        if word_at(house, (sort, crew[one], crew[other], side)) == "yield":
            return sort
    return None


def _round_from(house, crew, person):
    """The fewest persons, from this one on, each of whom can be put out by the next one, and the last by this one.

    None if there are none.
    """
    came = {person: ()}
    front = [person]
    while front:
        fresh = []
        for one in front:
            if puts_out(house, crew, one, person):
                return came[one] + (one,)
            for other in range(len(crew)):
                if other not in came and puts_out(house, crew, one, other):
                    came[other] = came[one] + (one,)
                    fresh.append(other)
        front = fresh
    return None


def _played(house, run):
    """The hall behind a run that is led with this rule, how often each person has begun, and all charges."""
    programs, row = run
    hall = hall_of(house, programs)
    begins = [0] * len(programs)
    # For each person that has to stay out the one for which it does.
    stays = {}
    told = []
    for index, person in enumerate(row):
        if person in stays or not hall.can_step(person):
            raise BadStep(index)
        holder = _asked_holder(hall, programs, person)
        word = hall.step(person)
        if word == "begin":
            begins[person] += 1
        if word in ("yield", "oust"):
            out, other = (person, holder) if word == "yield" else (holder, person)
            told.append((out, begins[out], other, begins[other]))
            stays = _freed(stays, out)
            stays[out] = other
        if hall.is_ended(person):
            stays = _freed(stays, person)
    return (hall, begins, told)


def _asked_holder(hall, programs, person):
    """Who holds the lock at which a person is that can step, or None."""
    place = hall.place_of(person)
    return None if place == -1 else hall.holder_of(programs[person][1][place])


def _freed(stays, person):
    """Who has to stay out once a person is out or ended."""
    return {one: other for one, other in stays.items() if other != person}
