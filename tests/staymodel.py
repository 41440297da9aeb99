"""Halls in which who was put out stays out till who did it has been put out or has ended since, once more."""

import copy

from tests.model import Model


class Stay(Model):
    """A hall that keeps a list of all that was done, and finds out anew each time who has to stay out."""

    def __init__(self, house, programs):
        super().__init__(house, programs)
        self.done = []
        self.begins = [0] * len(programs)

    def stays(self, person):
        """Whether the one that put a person out last was neither put out nor ended since."""
        outs = [at for at, told in enumerate(self.done) if told[0] == "out" and told[1] == person]
        if not outs:
            return False
        by = self.done[outs[-1]][3]
        return not any(told[0] in ("out", "end") and told[1] == by for told in self.done[outs[-1]:])

    def can_step(self, person):
        return super().can_step(person) and not self.stays(person)

    def step(self, person):
        lock = self.lock_at(person)
        holder = None if lock is None else self.holder(lock)
        word = super().step(person)
        if word == "begin":
            self.begins[person] += 1
        if word == "yield":
            self.done.append(("out", person, self.begins[person], holder, self.begins[holder]))
        if word == "oust":
            self.done.append(("out", holder, self.begins[holder], person, self.begins[person]))
        if self.people[person].status == "ended":
            self.done.append(("end", person))
        return word

    def charges(self):
        return [told[1:] for told in self.done if told[0] == "out"]

    def told(self):
        return [(many, one.status == "ended") for many, one in zip(self.begins, self.people)]

    def whole(self):
        """All that what comes depends on, and how often each has begun."""
        stays = tuple(self.done[-1 - self.done[::-1].index(told)][3] for told in self.last_outs())
        return (self.state(), tuple(told[1] for told in self.last_outs()), stays, tuple(self.begins))

    def last_outs(self):
        outs = {}
        for told in self.done:
            if told[0] == "out":
                outs[told[1]] = told
        return [outs[person] for person in sorted(outs) if self.stays(person)]


def stay_led(house, run):
    """The hall behind a run that is led with this rule, or the index of the first step that cannot be done."""
    model = Stay(house, run[0])
    for index, person in enumerate(run[1]):
        if not model.can_step(person):
            return index
        model.step(person)
    return model


def stay_run_on(draw, house, programs, steps):
    """A RUN of these programs, led with this rule, of at most so many steps."""
    model = Stay(house, programs)
    row = []
    for _ in range(steps):
        able = [person for person in range(len(programs)) if model.can_step(person)]
        if not able:
            break
        row.append(draw.choice(able))
        model.step(row[-1])
    return (programs, tuple(row))


def model_puts_out(house, crew, one, other):
    """Whether some sort makes the one yield to the other, the elder one being the one with the lesser number."""
    words = {tuple(sort[crew[one]][crew[other]])[0 if one < other else 1] for sort in house[2]}
    return one != other and "yield" in words


def model_masters(house, crew, person):
    return [other for other in range(len(crew)) if model_puts_out(house, crew, person, other)]


def model_most(house, crew):
    """The greatest numbers of begins by [11], of a crew that goes round nowhere."""

    def most(person):
        return 1 + sum(most(other) for other in model_masters(house, crew, person))

    return [most(person) for person in range(len(crew))]


def counts_of_runs(house, programs, most):
    """The sets of the numbers of begins at the ends of all runs by which all end, and of those at any time.

    All begin first, in their order. None if there are more halls than most.
    """
    first = Stay(house, programs)
    for person in range(len(programs)):
        first.step(person)
    seen, left = {first.whole()}, [first]
    ends, ever = set(), {tuple(first.begins)}
    while left:
        model = left.pop()
        ever.add(tuple(model.begins))
        if all(one.status == "ended" for one in model.people):
            ends.add(tuple(model.begins))
        for person in range(len(programs)):
            if model.can_step(person):
                other = copy.deepcopy(model)
                other.step(person)
                if other.whole() not in seen:
                    seen.add(other.whole())
                    left.append(other)
        if len(seen) > most:
            return None
    return ends, ever
