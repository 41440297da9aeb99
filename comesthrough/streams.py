"""Streams, in which new persons step without end, lap by lap."""

from comesthrough.forms import is_index, is_integer, is_lock, is_tuple, is_work
from comesthrough.runs import hall_of, is_run, led


def is_stream(house, thing):
    if not is_tuple(4, thing):
        return False
    programs, row, fresh, again = thing
    if not (is_run(house, (programs, row)) and isinstance(fresh, tuple) and isinstance(again, tuple) and again):
        return False
    if not (all([_is_fresh(house, program) for program in fresh]) and all([_is_step(fresh, step) for step in again])):
        return False
    olds = _olds_many(thing)
    return olds > 0 and all([step[1] < olds for step in again if step[0] == "old"])


def led_stream(house, stream, times):
    programs, row, fresh, _ = stream
    entered, steps = list(programs), list(row)
    for lap in range(times):
        entered.extend([program_in(program, lap) for program in fresh])
        steps.extend(_steps_in(stream, lap))
    return (tuple(entered), tuple(steps))


def goes_on(house, stream):
    return _are_numbers_apart(stream) and _are_laps_alike(house, stream)


def stream_holds(house, stream):
    hall = led(house, (stream[0], stream[1]))
    return [person for person in range(_olds_many(stream)) if not hall.is_ended(person)]


def program_in(program, lap):
    """What a fresh program is in a lap, also in one ahead of the first one."""
    kind, deeds = program
    return (kind, tuple([deed if is_work(deed) else (deed[0], deed[1] + deed[2] * lap) for deed in deeds]))


def _is_fresh(house, thing):
    if not is_tuple(2, thing):
        return False
    kind, deeds = thing
    if not (is_index(len(house[0]), kind) and isinstance(deeds, tuple) and deeds):
        return False
    locks = [deed for deed in deeds if not is_work(deed)]
    if not all([_is_shifted_lock(house, lock) for lock in locks]):
        return False
    return not any([_are_alike_ever(one, other) for at, other in enumerate(locks) for one in locks[:at]])


def _is_shifted_lock(house, thing):
    return is_tuple(3, thing) and is_lock(house, thing[:2]) and _is_from_0_on(thing[2])


def _is_from_0_on(thing):
    return is_integer(thing) and thing >= 0


def _are_alike_ever(one, other):
    """Tell whether two locks of a fresh program are the same one in some lap."""
    if one[0] != other[0]:
        return False
    apart, closer = other[1] - one[1], one[2] - other[2]
    if closer == 0:
        return apart == 0
    return apart % closer == 0 and apart // closer >= 0


def _is_step(fresh, thing):
    if not (isinstance(thing, tuple) and thing and isinstance(thing[0], str)):
        return False
    if thing[0] == "old":
        return len(thing) == 2 and _is_from_0_on(thing[1])
    return thing[0] == "new" and len(thing) == 3 and is_index(len(fresh), thing[1]) and _is_from_0_on(thing[2])


def _span_of(stream):
    return max([0] + [step[2] for step in stream[3] if step[0] == "new"])


def _olds_many(stream):
    """How many persons are old: those behind them stand for the laps ahead of the first one."""
    return len(stream[0]) - len(stream[2]) * _span_of(stream)


def _steps_in(stream, lap):
    """The persons that step in a lap."""
    programs, _, fresh, again = stream
    first = len(programs)
    return [step[1] if step[0] == "old" else first + (lap - step[2]) * len(fresh) + step[1] for step in again]


def _are_numbers_apart(stream):
    """Tell whether the locks of fresh programs are never those of old persons, nor of others that are spent."""
    locks = [deed for program in stream[2] for deed in program[1] if not is_work(deed)]
    for sort in sorted(set([lock[0] for lock in locks])):
        shifts = sorted(set([lock[2] for lock in locks if lock[0] == sort]))
        numbers = [lock[1] for lock in locks if lock[0] == sort]
        if len(shifts) > 1:
            return False
        if shifts[0] > 0 and not _are_apart_in(stream, sort, shifts[0], numbers):
            return False
    return True


def _are_apart_in(stream, sort, shift, numbers):
    least, greatest = min(numbers), max(numbers)
    if greatest - least > shift * (_span_of(stream) + 1):
        return False
    for person, program in enumerate(stream[0]):
        for deed in program[1]:
            if not is_work(deed) and deed[0] == sort:
                if deed[1] > greatest or (person < _olds_many(stream) and deed[1] >= least):
                    return False
    return True


def _are_laps_alike(house, stream):
    """Tell whether so many laps can be led that all that follows is like them, and hold off nobody that could go on."""
    laps = 2 * _span_of(stream) + 3
    programs = led_stream(house, stream, laps)[0]
    hall = hall_of(house, programs)
    for person in stream[1]:
        hall.step(person)
    states = [hall.state()]
    able = []
    for lap in range(laps):
        stepping = _stepping_in(hall, programs, stream, lap)
        if stepping is None:
            return False
        able.extend(stepping)
        states.append(hall.state())
    told = [_told_behind(stream, programs, able, lap, state) for lap, state in enumerate(states)]
    return all([one == told[0] for one in told])


def _stepping_in(hall, programs, stream, lap):
    """Lead a lap, and return the list of the old persons that can step in it; None if it is not as it has to be."""
    olds = _olds_many(stream)
    spent = range(olds, len(stream[0]) + (lap - _span_of(stream)) * len(stream[2]))
    steps = _steps_in(stream, lap)
    able, free, taken = [], [], []
    for person in steps:
        if not hall.can_step(person) or any([hall.can_step(one) for one in spent]):
            return None
        lock = _lock_at(hall, programs, person)
        if lock is not None and hall.holder_of(lock) in spent:
            return None
        able.extend([one for one in range(olds) if hall.can_step(one)])
        free.extend([(one, _lock_at(hall, programs, one)) for one in range(olds) if hall.can_take(one)])
        if hall.can_take(person):
            taken.append((person, lock))
        hall.step(person)
    if all([one in steps for one in able]) and all([couple in taken for couple in free]):
        return able
    return None


def _lock_at(hall, programs, person):
    """The lock at which a person is that is not ended, or None."""
    place = hall.place_of(person)
    if place == -1 or is_work(programs[person][1][place]):
        return None
    return programs[person][1][place]


def _told_behind(stream, programs, able, laps, state):
    """What is compared behind so many laps; new persons are told by how many laps ago they entered."""
    persons, ages = state
    olds, many = _olds_many(stream), len(stream[2])
    first = len(stream[0]) + laps * many
    present = list(range(olds)) + list(range(first - _span_of(stream) * many, first))
    names = {person: ("old", person) if person < olds else ("new", person - first) for person in range(len(programs))}
    told = []
    for person in present:
        kind, place, other = persons[person]
        if place == len(programs[person][1]):
            place = "ended"
        if other is None or (person < olds and person not in able):
            told.append((kind, place, None))
        else:
            told.append((kind, place, names[other]))
    return (told, [names[person] for person in ages if person in present])
