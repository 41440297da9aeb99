"""All states of programs, and who of them can be held off, by plain searches with halls led anew."""

import functools
import itertools

from tests.model import Model


def model_behind(house, programs, row):
    model = Model(house, programs)
    for person in row:
        model.step(person)
    return model


def model_states(house, programs):
    """A dict from all states to the shortest rows that lead to them, of these to the least one."""
    found = {Model(house, programs).state(): ()}
    front = [()]
    while front:
        fresh = {}
        for row in front:
            model = model_behind(house, programs, row)
            for person in range(len(programs)):
                if model.can_step(person):
                    further = row + (person,)
                    state = model_behind(house, programs, further).state()
                    if state not in found:
                        fresh[state] = min(fresh.get(state, further), further)
        found.update(fresh)
        front = sorted(fresh.values())
    return found


def model_ways(house, programs, states):
    """A dict from all states to dicts from the persons that can step there to (word, state, what it takes or None)."""
    ways = {}
    for state, row in states.items():
        ways[state] = {}
        for person in range(len(programs)):
            model = model_behind(house, programs, row)
            if model.can_step(person):
                lock = model.lock_at(person) if model.can_take(person) else None
                word = model.step(person)
                ways[state][person] = (word, model.state(), lock)
    return ways


@functools.lru_cache(maxsize=4000)
def model_held(house, programs):
    """The persons that are held off in some fair run."""
    states = model_states(house, programs)
    ways = model_ways(house, programs, states)
    held = set()
    for state in states:
        if not ways[state]:
            held |= unended(programs, state)
    for lot in fair_lots(ways):
        held |= unended(programs, lot[0])
    return sorted(held)


def unended(programs, state):
    return {person for person, told in enumerate(state[0]) if told[1] != len(programs[person][1])}


def fair_lots(ways):
    """Lots of states that some fair run goes round in: all choices are tried of locks that are free only now and then.

    Whoever can take a lock infinitely often takes it infinitely often; so of each (person, lock) that is never taken
    from some moment on, no state in which it could be is gone through from some moment on.
    """
    takes = sorted({(person, way[2]) for lot in ways.values() for person, way in lot.items() if way[2] is not None})
    takes = [take for take in takes if in_a_lot(ways, take)]
    for many in range(len(takes) + 1):
        for barred in itertools.combinations(takes, many):
            kept = [
                state for state in ways
                if not any(person in ways[state] and ways[state][person][2] == lock for person, lock in barred)
            ]
            for lot in strong_lots(ways, kept):
                if is_fair_lot(ways, lot):
                    yield lot


def in_a_lot(ways, take):
    """Tell whether a person can take a lock in some state that can be come to again."""
    person, lock = take
    for lot in strong_lots(ways, list(ways)):
        if any(person in ways[state] and ways[state][person][2] == lock for state in lot):
            return True
    return False


def is_fair_lot(ways, lot):
    able, taken, inside = set(), set(), set(lot)
    for state in lot:
        for person, (_, other, lock) in ways[state].items():
            able |= {(person, None), (person, lock)}
            if other in inside:
                taken |= {(person, None), (person, lock)}
    return able == taken


def strong_lots(ways, kept):
    """The lots of these states in which each leads to each, with a step at least."""
    inside = set(kept)
    ahead = {state: reached(ways, inside, state) for state in kept}
    lots, done = [], set()
    for state in kept:
        if state not in done and state in ahead[state]:
            lot = [other for other in kept if other in ahead[state] and state in ahead[other]]
            done |= set(lot)
            lots.append(lot)
    return lots


def reached(ways, inside, state):
    found, left = set(), [state]
    while left:
        for _, other, _ in ways[left.pop()].values():
            if other in inside and other not in found:
                found.add(other)
                left.append(other)
    return found
