"""All states to which programs can come."""

from comesthrough.errors import TooMany
from comesthrough.steps import can_step_in, first_state, moved

STATES_MOST = 20000


class Space:
    """The states of programs, numbered in the order in which they are found: first those that come with fewer steps.

    Of those that come with as many, first those whose row is less. For each state it has the list of its WAYS: tuples
    (person, word, number), one for each person that can step: what it does, and the number of the state behind it.
    """

    def __init__(self, house, programs):
        self._house = house
        self._programs = programs
        self.states = []
        self.ways = []
        self._numbers = {}
        # For each state the one ahead of it and the person by whose step it was found.
        self._came = []
        self._number_of(first_state(programs), None)
        while len(self.ways) < len(self.states):
            self.ways.append(self._ways_from(len(self.ways)))

    def number_of(self, state):
        """The number of a state, None if it is no state of these programs."""
        return self._numbers.get(state)

    def row_to(self, number):
        """The least of the shortest rows behind which this is the state."""
        row = []
        here = number
        while self._came[here] is not None:
            here, person = self._came[here]
            row.append(person)
        return tuple(row[::-1])

    def stuck(self):
        """The numbers of the states in which nobody can step, and somebody is not ended."""
        return [number for number, ways in enumerate(self.ways) if not ways and self.not_ended(number)]

    def not_ended(self, number):
        """The persons that are not ended in a state."""
        persons = self.states[number][0]
        return [one for one, program in enumerate(self._programs) if persons[one][1] != len(program[1])]

    def _ways_from(self, number):
        state = self.states[number]
        ways = []
        for person in range(len(self._programs)):
            if can_step_in(self._programs, state, person):
                word, other = moved(self._house, self._programs, state, person)
                ways.append((person, word, self._number_of(other, (number, person))))
        return ways

    def _number_of(self, state, came):
        """The number of a state, which may be found here for the first time."""
        if state not in self._numbers:
            if len(self.states) == STATES_MOST:
                raise TooMany(STATES_MOST)
            self._numbers[state] = len(self.states)
            self.states.append(state)
            self._came.append(came)
        return self._numbers[state]
