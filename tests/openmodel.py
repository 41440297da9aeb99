"""Open houses and streams once more, as plainly as the document's words have them, to compare with."""

import functools

from tests.model import (
    Model, Person, model_kept_edges, model_knots, model_leading, model_moves, model_nodes, model_nodes_ever, model_outs,
)


def model_fitting_outs(house, node):
    """The outs by which newcomers put out for ever who is at a node."""
    if node[0] == "stand":
        return []
    if model_moves(house, node):
        return model_outs(house, node[1])
    return [out for out in model_outs(house, node[1]) if out[1] == "younger"]


def model_open_ends(house):
    """The nodes that [9] names."""
    edges = model_kept_edges(house)
    young = [
        node for knot in model_knots(house, model_nodes(house)) for node in knot
        if any(edge[0] in knot and edge[1] in knot and edge[2] == "younger" for edge in edges)
    ]
    return [node for node in model_nodes(house) if node in young or model_fitting_outs(house, node)]


@functools.lru_cache(maxsize=2000)
def model_open_nodes(house):
    """The nodes that [9] names, and those from which a way leads to one."""
    return tuple(model_leading(house, model_open_ends(house)))


def model_comes_through_open(house, kind):
    return not set(model_open_nodes(house)) & set(model_nodes_ever(house, kind))


def model_span(stream):
    return max([step[2] for step in stream[3] if step[0] == "new"], default=0)


def model_names(stream):
    """What the persons of the programs of a stream are: ("old", index) or ("new", lap, index)."""
    span, many = model_span(stream), len(stream[2])
    stand_ins = [("new", lap, index) for lap in range(-span, 0) for index in range(many)]
    return [("old", index) for index in range(len(stream[0]) - len(stand_ins))] + stand_ins


def model_entering(stream, lap):
    """The names and programs of those who enter in a lap."""
    found = []
    for index, (kind, deeds) in enumerate(stream[2]):
        told = tuple(deed if deed == "work" else (deed[0], deed[1] + deed[2] * lap) for deed in deeds)
        found.append((("new", lap, index), (kind, told)))
    return found


def model_stepping(stream, lap):
    """The names of those who step in a lap."""
    return [step if step[0] == "old" else ("new", lap - step[2], step[1]) for step in stream[3]]


def model_led(stream, times):
    """What led_stream returns."""
    names, programs, row = model_names(stream), list(stream[0]), list(stream[1])
    for lap in range(times):
        for name, program in model_entering(stream, lap):
            names.append(name)
            programs.append(program)
        row += [names.index(name) for name in model_stepping(stream, lap)]
    return (tuple(programs), tuple(row))


def broken_by_numbers(house, stream):
    """What of the shifts and the numbers of locks keeps a stream from going on."""
    broken = set()
    for sort in range(len(house[1])):
        locks = [deed for _, deeds in stream[2] for deed in deeds if deed != "work" and deed[0] == sort]
        if len({lock[2] for lock in locks}) > 1:
            broken.add("shifts")
        elif locks and locks[0][2] > 0:
            numbers = [lock[1] for lock in locks]
            if max(numbers) - min(numbers) > locks[0][2] * (model_span(stream) + 1):
                broken.add("apart")
            for name, (_, deeds) in zip(model_names(stream), stream[0]):
                for deed in deeds:
                    if deed != "work" and deed[0] == sort:
                        broken |= {"above"} if deed[1] > max(numbers) else set()
                        broken |= {"below"} if name[0] == "old" and deed[1] >= min(numbers) else set()
    return broken


def model_broken(house, stream):
    """The names of all that keeps a STREAM from going on; nothing more is told where a step cannot be done."""
    broken = broken_by_numbers(house, stream)
    span, names = model_span(stream), model_names(stream)
    model = Model(house, stream[0])
    for person in stream[1]:
        model.step(person)
    shots = [model_shot(model, names)]
    able_ever = set()
    for lap in range(2 * span + 3):
        for name, program in model_entering(stream, lap):
            names.append(name)
            model.people.append(Person(program))
        able, free, stepped, taken = set(), set(), set(), set()
        spent = [person for person, name in enumerate(names) if name[0] == "new" and name[1] < lap - span]
        old = [person for person, name in enumerate(names) if name[0] == "old"]
        for name in model_stepping(stream, lap):
            able |= {person for person in old if model.can_step(person)}
            free |= {(person, model.lock_at(person)) for person in old if model.can_take(person)}
            if [person for person in spent if model.can_step(person)]:
                broken.add("spent steps")
            person = names.index(name)
            if not model.can_step(person):
                return broken | {"run"}
            lock = model.lock_at(person)
            if lock is not None and model.holder(lock) in spent:
                broken.add("spent holds")
            stepped.add(person)
            if model.step(person) == "take":
                taken.add((person, lock))
        broken |= {"idle"} if able - stepped else set()
        broken |= {"free"} if free - taken else set()
        able_ever |= able
        shots.append(model_shot(model, names))
    for laps, (one, other) in enumerate(zip(shots, shots[1:])):
        broken |= unlike_shots(one, other, laps - span, able_ever)
    return broken


def model_shot(model, names):
    """What a round compares: a dict from names to kinds, places and names, and the names of the order."""
    told = {}
    for name, one in zip(names, model.people):
        place = one.status if one.status != "at" else one.at
        told[name] = (one.kind, place, None if one.waits is None else names[one.waits])
    return told, [names[person] for person in model.order]


def unlike_shots(one, other, least, able):
    """What is not as one lap later, of all but who is of a lap below least."""
    def later(name):
        return name if name is None or name[0] == "old" else ("new", name[1] + 1, name[2])

    broken = set()
    compared = [name for name in one[0] if name[0] == "old" or name[1] >= least]
    for name in compared:
        first, second = one[0][name], other[0][later(name)]
        broken |= {"kinds"} if first[0] != second[0] else set()
        broken |= {"places"} if first[1] != second[1] else set()
        waits = name[0] == "new" or name[1] in able
        broken |= {"waits"} if waits and later(first[2]) != second[2] else set()
    ages = [later(name) for name in one[1] if name in compared]
    if ages != [name for name in other[1] if name[0] == "old" or name[1] > least]:
        broken.add("ages")
    return broken


def model_is_stream(house, thing):
    """Whether a tuple of tuples with the form of a stream, with not too great numbers, is one."""
    programs, row, fresh, again = thing
    span, many = model_span(thing), len(fresh)
    words = [None] if not isinstance(model_run(house, programs, row), list) else []
    for _, deeds in fresh:
        locks = [deed for deed in deeds if deed != "work"]
        for lap in range(60):
            if len({(sort, number + shift * lap) for sort, number, shift in locks}) < len(locks):
                words.append(lap)
    for step in again:
        if step[0] == "old" and step[1] >= len(programs) - many * span:
            words.append(step)
    return words == [] and len(again) > 0 and len(programs) > many * span


def model_run(house, programs, row):
    """What each step of a row does, or None if one cannot be done."""
    model = Model(house, programs)
    words = []
    for person in row:
        if person >= len(programs) or not model.can_step(person):
            return None
        words.append(model.step(person))
    return words
