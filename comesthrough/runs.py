"""Runs and rounds: steps of persons who all enter a hall at the beginning."""

from comesthrough.errors import BadStep
from comesthrough.forms import is_index, is_program, is_tuple
from comesthrough.hall import Hall


def is_run(house, thing):
    if not is_tuple(2, thing):
        return False
    programs, row = thing
    if not (_are_programs(house, programs) and _are_indexes(len(programs), row)):
        return False
    try:
        led(house, thing)
    except BadStep:
        return False
    return True


def is_round(house, thing):
    if not is_tuple(3, thing):
        return False
    programs, row, again = thing
    if not (isinstance(row, tuple) and isinstance(again, tuple) and again):
        return False
    if not is_run(house, (programs, row + again)):
        return False
    hall = led(house, (programs, row))
    before = hall.state()
    _go_on(hall, again)
    return hall.state() == before


def hall_of(house, programs):
    hall = Hall(house)
    for program in programs:
        hall.enter(program)
    return hall


def led(house, run):
    programs, row = run
    hall = hall_of(house, programs)
    _go_on(hall, row)
    return hall


def words_of(house, run):
    programs, row = run
    return _go_on(hall_of(house, programs), row)


def is_stuck(house, run):
    hall = led(house, run)
    return len(_not_ended(hall)) > 0 and not hall.steppers()


def is_fair(house, lap):
    return not unfair_to(house, lap)


def unfair_to(house, lap):
    programs, row, again = lap
    hall = led(house, (programs, row))
    could_step = set()
    could_take = set()
    taken = set()
    for person in again:
        for one in hall.steppers():
            could_step.add(one)
        for one in hall.takers():
            could_take.add((one, _lock_at(hall, programs, one)))
        if hall.can_take(person):
            taken.add((person, _lock_at(hall, programs, person)))
        hall.step(person)
    idle = [one for one in sorted(could_step) if one not in again]
    missing = [one for one, lock in sorted(could_take) if (one, lock) not in taken]
    return sorted(set(idle + missing))


def held_off(house, lap):
    programs, row, _ = lap
    return _not_ended(led(house, (programs, row)))


def renumbered(run, order):
    programs, row = run
    return (tuple([programs[old] for old in order]), tuple([order.index(person) for person in row]))


def joined_runs(one, other):
    many = len(one[0])
    return (one[0] + other[0], one[1] + tuple([person + many for person in other[1]]))


def _are_programs(house, thing):
    return isinstance(thing, tuple) and all([is_program(house, program) for program in thing])


def _are_indexes(many, thing):
    return isinstance(thing, tuple) and all([is_index(many, person) for person in thing])


def _go_on(hall, row):
    """Let these persons step, and return the list of what each step was."""
    words = []
    for index, person in enumerate(row):
        if not hall.can_step(person):
            raise BadStep(index)
        words.append(hall.step(person))
    return words


def _not_ended(hall):
    return [person for person in range(hall.persons_many()) if not hall.is_ended(person)]


def _lock_at(hall, programs, person):
    return programs[person][1][hall.place_of(person)]
