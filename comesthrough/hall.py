"""The hall, in which programs are played step by step."""

from comesthrough.errors import CannotStep, NoPerson, Nothing, Wrong
from comesthrough.forms import is_house, is_index, is_lock, is_program
from comesthrough.steps import can_step_in, first_state, holder_in, moved


class Hall:
    """The persons of a house, what each of them is and does, and all that was done."""

    def __init__(self, house):
        if not is_house(house):
            raise Wrong(0)
        self._house = house
        self._programs = []
        self._state = first_state([])
        # For each thing that was done (what it was, the state ahead of it).
        self._past = []

    def __eq__(self, other):
        if not isinstance(other, Hall):
            return False
        if self._house != other._house or self._programs != other._programs:
            return False
        return self._state == other._state

    def enter(self, program):
        if not is_program(self._house, program):
            raise Wrong(0)
        persons, ages = self._state
        self._past.append((("enter", program), self._state))
        self._programs.append(program)
        self._state = (persons + first_state([program])[0], ages)
        return len(self._programs) - 1

    def step(self, person):
        if not self.can_step(person):
            raise CannotStep(person)
        word, state = moved(self._house, self._programs, self._state, person)
        self._past.append((("step", person), self._state))
        self._state = state
        return word

    def kind_of(self, person):
        return self._told_of(person)[0]

    def place_of(self, person):
        return self._told_of(person)[1]

    def locks_of(self, person):
        place = self.place_of(person)
        if place == -1 or self.is_ended(person):
            return []
        return sorted([deed for deed in self._programs[person][1][:place] if deed != "work"])

    def waits_for(self, person):
        return self._told_of(person)[2]

    def can_step(self, person):
        self._know(person)
        return can_step_in(self._programs, self._state, person)

    def is_ended(self, person):
        return self.place_of(person) == len(self._programs[person][1])

    def can_take(self, person):
        if not self.can_step(person) or self.place_of(person) == -1:
            return False
        deed = self._programs[person][1][self.place_of(person)]
        return deed != "work" and holder_in(self._programs, self._state, deed) is None

    def persons_many(self):
        return len(self._programs)

    def steppers(self):
        return [person for person in range(len(self._programs)) if self.can_step(person)]

    def takers(self):
        return [person for person in range(len(self._programs)) if self.can_take(person)]

    def ages(self):
        return list(self._state[1])

    def holder_of(self, lock):
        # What has a truth in it would be found in the place of a lock with 0 or 1.
        return holder_in(self._programs, self._state, lock) if is_lock(self._house, lock) else None

    def state(self):
        return self._state

    def deeds_done(self):
        return [past[0] for past in self._past]

    def undo(self):
        if not self._past:
            raise Nothing()
        done, before = self._past.pop()
        if done[0] == "enter":
            self._programs.pop()
        self._state = before
        return done

    def copied(self):
        other = Hall(self._house)
        other._programs = list(self._programs)
        other._state = self._state
        other._past = list(self._past)
        return other

    def _know(self, person):
        if not is_index(len(self._programs), person):
            raise NoPerson(person)

    def _told_of(self, person):
        """The tuple (kind, place, waits for) of a person, any value."""
        self._know(person)
        return self._state[0][person]
