"""The hall, in which programs are played step by step."""

from comesthrough.errors import CannotStep, NoPerson, Nothing, Wrong
from comesthrough.forms import is_house, is_index, is_lock, is_program


class Hall:
    """The persons of a house, what each of them is and does, and all that was done."""

    def __init__(self, house):
        if not is_house(house):
            raise Wrong(0)
        self._house = house
        self._programs = []
        # For each person (kind, place, waits for), as state() tells them.
        self._persons = []
        self._ages = ()
        self._holders = {}
        # For each thing that was done (what it was, whom it changed and what they were, the ages ahead of it).
        self._past = []

    def __eq__(self, other):
        if not isinstance(other, Hall):
            return False
        if self._house != other._house or self._programs != other._programs:
            return False
        return self._persons == other._persons and self._ages == other._ages

    def enter(self, program):
        if not is_program(self._house, program):
            raise Wrong(0)
        self._past.append((("enter", program), {}, self._ages))
        self._programs.append(program)
        self._persons.append((program[0], -1, None))
        return len(self._programs) - 1

    def step(self, person):
        if not self.can_step(person):
            raise CannotStep(person)
        self._past.append((("step", person), {}, self._ages))
        if self._persons[person][1] == -1:
            return self._begin(person)
        deed = self._deed_of(person)
        if deed == "work":
            return self._go_on(person, "work")
        if deed not in self._holders:
            return self._go_on(person, "take")
        return self._ask(person, deed)

    def kind_of(self, person):
        self._know(person)
        return self._persons[person][0]

    def place_of(self, person):
        self._know(person)
        return self._persons[person][1]

    def locks_of(self, person):
        self._know(person)
        return sorted(self._held_by(person))

    def waits_for(self, person):
        self._know(person)
        return self._persons[person][2]

    def can_step(self, person):
        return self.waits_for(person) is None and not self.is_ended(person)

    def is_ended(self, person):
        return self.place_of(person) == len(self._programs[person][1])

    def can_take(self, person):
        if not self.can_step(person) or self.place_of(person) == -1:
            return False
        deed = self._deed_of(person)
        return deed != "work" and deed not in self._holders

    def persons_many(self):
        return len(self._persons)

    def steppers(self):
        return [person for person in range(len(self._persons)) if self.can_step(person)]

    def takers(self):
        return [person for person in range(len(self._persons)) if self.can_take(person)]

    def ages(self):
        return list(self._ages)

    def holder_of(self, lock):
        # A key with a truth in it would be found in the place of one with 0 or 1.
        return self._holders.get(lock) if is_lock(self._house, lock) else None

    def state(self):
        return (tuple(self._persons), self._ages)

    def deeds_done(self):
        return [past[0] for past in self._past]

    def undo(self):
        if not self._past:
            raise Nothing()
        done, changed, ages = self._past.pop()
        if done[0] == "enter":
            # Who entered last has done no step that is not taken back, and holds nothing.
            self._programs.pop()
            self._persons.pop()
        for person in changed:
            self._put(person, changed[person])
        self._ages = ages
        return done

    def copied(self):
        other = Hall(self._house)
        other._programs = list(self._programs)
        other._persons = list(self._persons)
        other._ages = self._ages
        other._holders = {lock: self._holders[lock] for lock in self._holders}
        other._past = list(self._past)
        return other

    def _know(self, person):
        if not is_index(len(self._persons), person):
            raise NoPerson(person)

    def _deed_of(self, person):
        """What the person is at, who is neither out nor ended."""
        return self._programs[person][1][self._persons[person][1]]

    def _held_by(self, person):
        deeds, place = self._programs[person][1], self._persons[person][1]
        if place == -1 or place == len(deeds):
            return []
        return [deed for deed in deeds[:place] if deed != "work"]

    def _become(self, person, told):
        """Let a step make a person (kind, place, waits for); what it was ahead of the step is kept for undo()."""
        changed = self._past[-1][1]
        changed.setdefault(person, self._persons[person])
        self._put(person, told)

    def _put(self, person, told):
        """Let a person be (kind, place, waits for), and hold the locks that it holds then."""
        for lock in self._held_by(person):
            del self._holders[lock]
        self._persons[person] = told
        for lock in self._held_by(person):
            self._holders[lock] = person

    def _begin(self, person):
        self._become(person, (self._persons[person][0], 0, None))
        if person not in self._ages:
            self._ages = self._ages + (person,)
        return "begin"

    def _go_on(self, person, word):
        """Let a person be at its next deed, or ended."""
        kind, place, _ = self._persons[person]
        self._become(person, (kind, place + 1, None))
        if self.is_ended(person):
            self._leave_order(person)
            self._free_waiters(person)
        return word

    def _ask(self, person, lock):
        """Do what the judge says, the lock being held by another person."""
        kind, place, _ = self._persons[person]
        holder = self._holders[lock]
        side = 0 if self._ages.index(person) < self._ages.index(holder) else 1
        word = self._house[2][lock[0]][kind][self._persons[holder][0]][side]
        if word == "wait":
            self._become(person, (kind, place, holder))
        elif word == "yield":
            self._put_out(person)
        else:
            self._put_out(holder)
        return word

    def _put_out(self, person):
        _, keeps, rise = self._house[0][self._persons[person][0]]
        self._become(person, (rise, -1, None))
        if not keeps:
            self._leave_order(person)
        self._free_waiters(person)

    def _leave_order(self, person):
        self._ages = tuple([one for one in self._ages if one != person])

    def _free_waiters(self, person):
        """Let nobody wait for a person any more."""
        for waiter, told in enumerate(list(self._persons)):
            if told[2] == person:
                self._become(waiter, (told[0], told[1], None))
