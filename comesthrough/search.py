"""All states of programs, which alone are in a hall: how one comes to them, and whether all can end."""

from comesthrough.forms import is_index, is_integer, is_tuple
from comesthrough.spaces import Space


def states_many(house, programs):
    return len(Space(house, programs).states)


def ways_on(house, programs, state):
    space = Space(house, programs)
    return [(person, word, space.states[other]) for person, word, other in space.ways[space.number_of(state)]]


def run_to(house, programs, state):
    space = Space(house, programs)
    number = space.number_of(state) if _has_state_form(len(programs), state) else None
    return None if number is None else (programs, space.row_to(number))


def stuck_states(house, programs):
    space = Space(house, programs)
    return sorted([space.states[number] for number in space.stuck()], key=_with_integers)


def can_all_end(house, programs):
    return _all_ended(Space(house, programs)) is not None


def ending_run(house, programs):
    space = Space(house, programs)
    number = _all_ended(space)
    return None if number is None else (programs, space.row_to(number))


def _all_ended(space):
    """The first of the numbers of the states in which all are ended, or None."""
    for number in range(len(space.states)):
        if not space.not_ended(number):
            return number
    return None


def _has_state_form(many, thing):
    """Tell whether a value can be looked for among the states of so many programs."""
    if not (is_tuple(2, thing) and is_tuple(many, thing[0]) and isinstance(thing[1], tuple)):
        return False
    return all([_has_person_form(many, told) for told in thing[0]]) and all([is_index(many, one) for one in thing[1]])


def _has_person_form(many, thing):
    if not is_tuple(3, thing):
        return False
    kind, place, other = thing
    return is_integer(kind) and is_integer(place) and (other is None or is_index(many, other))


def _with_integers(state):
    """A state with -1 in the place of None."""
    persons, ages = state
    return ([(kind, place, -1 if other is None else other) for kind, place, other in persons], ages)
