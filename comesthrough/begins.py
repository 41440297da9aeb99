"""How often persons begin who stay out, once they are put out, as long as the person does that put them out."""

from comesthrough.errors import Forgets, GoesRound, NotMeek
from comesthrough.houses import is_meek
from comesthrough.staying import crew_round, lock_of, puts_out


def most_begins(house, crew):
    _ask_crew(house, crew)
    most = {}
    for person in _victims_last(house, crew):
        most[person] = 1 + sum([most[other] for other in _masters_of(house, crew, person)])
    return [most[person] for person in range(len(crew))]


def busiest_run(house, crew):
    _ask_crew(house, crew)
    return Busy(house, crew).run()


def is_possible(house, crew, counts):
    _ask_crew(house, crew)
    persons = range(len(crew))
    return all([
        1 <= counts[person] <= 1 + sum([counts[other] for other in _masters_of(house, crew, person)])
        for person in persons
    ])


class Busy:
    """A crew each of whom is put out once in each turn of each person that can put it out.

    A TURN of a person is from a begin of it till it is put out, or ends. In it, it takes a lock for each of its
    victims, and then one for each of its masters, those first that are put out by more of the others: so it is put
    out by the last one that has begun a turn. Ahead of the end of its turn all its victims come and are put out by
    it, one behind the other, in the order in which they can put out each other.
    """

    def __init__(self, house, crew):
        self._house = house
        self._crew = crew
        self._order = _victims_last(house, crew)
        self._row = list(range(len(crew)))
        # All begin first; who is put out since has to begin anew.
        self._out = [False] * len(crew)

    def run(self):
        for person in self._order:
            self._lead_turn(person, len(self._masters(person)))
            self._row.append(person)
        return (tuple([self._program(person) for person in range(len(self._crew))]), tuple(self._row))

    def _lead_turn(self, person, passed):
        """Let a person come to its lock of the master with this index, and its victims be put out by it."""
        if self._out[person]:
            self._row.append(person)
        self._row.extend([person] * (len(self._victims(person)) + passed))
        for victim in self._victims(person):
            self._lead_turn(victim, self._masters(victim).index(person))
            self._row.append(victim)
            self._out[victim] = True

    def _program(self, person):
        locks = [lock_of(self._house, self._crew, victim, person) for victim in self._victims(person)]
        locks.extend([lock_of(self._house, self._crew, person, master) for master in self._masters(person)])
        return (self._crew[person], tuple(locks) + ("work",))

    def _masters(self, person):
        return [one for one in self._order[::-1] if puts_out(self._house, self._crew, person, one)]

    def _victims(self, person):
        return [one for one in self._order if puts_out(self._house, self._crew, one, person)]


def _ask_crew(house, crew):
    """Raise an error if nothing bounds how often the crew begins."""
    if not is_meek(house):
        raise NotMeek()
    forgetting = [kind for kind in crew if not house[0][kind][1]]
    if forgetting:
        raise Forgets(min(forgetting))
    persons = crew_round(house, crew)
    if persons is not None:
        raise GoesRound(persons)


def _masters_of(house, crew, person):
    """The persons by whom a person can be put out."""
    return [other for other in range(len(crew)) if puts_out(house, crew, person, other)]


def _victims_last(house, crew):
    """All persons, none of them ahead of one that can put it out."""
    order = []
    while len(order) < len(crew):
        for person in range(len(crew)):
            if person not in order and all([other in order for other in _masters_of(house, crew, person)]):
                order.append(person)
    return order
