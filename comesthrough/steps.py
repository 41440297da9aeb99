"""What a step is, and what it makes of a STATE: the tuple that state() of a hall returns."""


def first_state(programs):
    """The state in which all that have these programs are out, and were never in."""
    return (tuple([(program[0], -1, None) for program in programs]), ())


def can_step_in(programs, state, person):
    _, place, other = state[0][person]
    return other is None and place != len(programs[person][1])


def holder_in(programs, state, lock):
    """The person that holds a lock, or None."""
    for person, told in enumerate(state[0]):
        deeds, place = programs[person][1], told[1]
        # Who is out or ended holds nothing.
        if 0 < place < len(deeds) and lock in deeds[:place]:
            return person
    return None


def moved(house, programs, state, person):
    """What the next step of a person is that can step, and the state behind it."""
    kind, place, _ = state[0][person]
    if place == -1:
        return ("begin", _begun(state, person, kind))
    deed = programs[person][1][place]
    if deed == "work":
        return ("work", _gone_on(programs, state, person))
    holder = holder_in(programs, state, deed)
    if holder is None:
        return ("take", _gone_on(programs, state, person))
    return _asked(house, state, person, holder, deed[0])


def _begun(state, person, kind):
    persons, ages = state
    return (_with_person(persons, person, (kind, 0, None)), ages if person in ages else ages + (person,))


def _gone_on(programs, state, person):
    """The state in which a person is at its next deed, or ended."""
    persons, ages = state
    kind, place, _ = persons[person]
    further = _with_person(persons, person, (kind, place + 1, None))
    if place + 1 == len(programs[person][1]):
        return (_freed(further, person), _without(ages, person))
    return (further, ages)


def _asked(house, state, person, holder, sort):
    """What the judge says to a person that asks for a lock of this sort, and the state behind it."""
    persons, ages = state
    kind, place, _ = persons[person]
    side = 0 if ages.index(person) < ages.index(holder) else 1
    word = house[2][sort][kind][persons[holder][0]][side]
    if word == "wait":
        return (word, (_with_person(persons, person, (kind, place, holder)), ages))
    return (word, _put_out(house, state, person if word == "yield" else holder))


def _put_out(house, state, person):
    persons, ages = state
    _, keeps, rise = house[0][persons[person][0]]
    out = _freed(_with_person(persons, person, (rise, -1, None)), person)
    return (out, ages if keeps else _without(ages, person))


def _with_person(persons, person, told):
    return persons[:person] + (told,) + persons[person + 1:]


def _freed(persons, person):
    """Let nobody wait for a person any more."""
    return tuple([(told[0], told[1], None) if told[2] == person else told for told in persons])


def _without(ages, person):
    return tuple([one for one in ages if one != person])
