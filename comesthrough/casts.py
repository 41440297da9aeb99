"""Persons who hold each other off for ever: their programs, and the steps by which they do so."""

from comesthrough.houses import outs_at, word_at
from comesthrough.nodes import is_moving, places_of_edge, word_of


class Cast:
    """Persons who stand waiting for another one, or are put out by it again and again.

    Each has a LINK (node, other, place): ("stand", kind, ..) or ("anew", kind, ..), the person that holds it off, and
    the place where the judge says so. Other may also be a number from twice the number of all persons on: this is that
    of a lock, then, which no person of the cast holds. Helpers, told as helper_for returns them, are persons, too, and
    raise person 0 from a kind.

    Who is put out is so once in each lap, by persons who never change. Of those with moving nodes the first ones, whose
    numbers are below firsts, are put out one behind the other, and then begin again, so that they are the youngest
    ones; then the second ones likewise. So each can be put out by an elder one of its own lot, or by a younger one of
    the other lot.
    """

    def __init__(self, house, kind, helpers, links, firsts):
        self._house = house
        self._kind = kind
        self._helpers = list(helpers)
        self._links = list(links)
        persons = range(len(self._links))
        fixed = [person for person in persons if not self._moves(person)]
        moving = [person for person in persons if self._moves(person)]
        couples = [self._by_age(person) for person in persons]
        lots = [
            eldest_first([person for person in moving if person < firsts], couples),
            eldest_first([person for person in moving if person >= firsts], couples),
        ]
        self._order = eldest_first(fixed, couples) + lots[0] + lots[1]
        # Each lot is put out from its youngest one on.
        self._lots = lots + [[person] for person in fixed if not self._stands(person)]
        self._turns = [person for lot in self._lots for person in lot[::-1]]

    def programs(self):
        """The programs of all persons, and behind them those of the helpers."""
        told = [self._program(person) for person in range(len(self._links))]
        first = len(told)
        told.extend([helper_program(helper, first + index) for index, helper in enumerate(self._helpers)])
        return tuple(told)

    def begins(self):
        """The steps by which all begin in the order of their ages, and person 0 is raised."""
        many = len(self._links)
        at = self._order.index(0)
        row = self._order[:at]
        for index, helper in enumerate(self._helpers):
            if helper[3]:
                row.extend(helper_start(helper, many + index))
        row.extend(raising_row(self._helpers, many))
        row.extend(self._order[at:])
        return row

    def settles(self):
        """The steps behind that by which all come to where they are ahead of each lap."""
        row = []
        for person in self._order:
            row.extend([person] * len(self._kept(person)))
        for at, person in enumerate(self._turns):
            # The locks of those that it ousts when it has been put out and has begun again are free as yet.
            for _ in self._ousted_by(person, self._turns[at + 1:]):
                row.extend([person, person])
        row.extend([person for person in self._order if self._stands(person)])
        return row

    def turn(self, person):
        """The steps by which a person is put out, but for those of who is no person of the cast."""
        other = self._links[person][1]
        row = [person, person]
        if self._is_ousted(person) and other < len(self._links):
            row.extend([other, other, other])
        return row

    def rise(self, person):
        """The steps by which who was put out begins again and takes what it holds for others."""
        return [person] * (1 + len(self._kept(person)))

    def lap(self):
        """The steps by which all that begin anew are put out, once each."""
        row = []
        for lot in self._lots:
            for person in lot[::-1]:
                row.extend(self.turn(person))
            for person in lot:
                row.extend(self.rise(person))
        return row

    def story(self):
        """A run behind which all stand, or a round in which some begin anew for ever."""
        row = tuple(self.begins() + self.settles())
        if not self._turns:
            return (self.programs(), row)
        return (self.programs(), row, tuple(self.lap()))

    def lost_lock(self, person):
        """The lock that a person has when it is ousted, and takes for that alone: who ousts it has it from then on."""
        return (self._links[person][2][0], len(self._links) + len(self._helpers) + person)

    def _moves(self, person):
        return is_moving(self._house, self._links[person][0])

    def _stands(self, person):
        return self._links[person][0][0] == "stand"

    def _is_ousted(self, person):
        return word_at(self._house, self._links[person][2]) == "oust"

    def _by_age(self, person):
        """The person and the one that holds it off, the elder one first."""
        _, other, place = self._links[person]
        return (other, person) if word_of(self._house, place) == "elder" else (person, other)

    def _program(self, person):
        node, other, place = self._links[person]
        kind = self._kind if person == 0 else node[1]
        deeds = self._kept(person)
        if self._stands(person):
            return (kind, tuple(deeds + [(place[0], other)]))
        deeds.append("work")
        at = self._turns.index(person)
        for one in self._ousted_by(person, self._turns[at + 1:] + self._turns[:at]):
            deeds.extend([self.lost_lock(one), "work"])
        if self._is_ousted(person):
            return (kind, tuple(deeds + [self.lost_lock(person), "work"]))
        return (kind, tuple(deeds + [(place[0], other)]))

    def _kept(self, person):
        """The locks that a person takes when it begins, person 0 those first at which it has met the helpers.

        Of each sort in which it is asked it has one, with its own number.
        """
        first = len(self._links)
        met = [(helper[0], first + index) for index, helper in enumerate(self._helpers)] if person == 0 else []
        asked = [
            place[0]
            for one, (_, other, place) in enumerate(self._links)
            if other == person and not self._is_ousted(one)
        ]
        return met + [(sort, person) for sort in sorted(set(asked))]

    def _ousted_by(self, person, others):
        """Those of others that a person ousts, in the same order."""
        return [one for one in others if self._links[one][1] == person and self._is_ousted(one)]


def cast_along(house, kind, helpers, nodes, places, back):
    """The Cast of a person for each of nodes, and a second one where others come to a moving one.

    Each is held off by the next one, at the PLACE with the same index, the last one by the one with the index back.
    Helpers raise person 0 from a kind.
    """
    many = len(nodes)
    doubled = [at for at in range(many) if is_moving(house, nodes[at]) and (at > 0 or back == 0)]
    twins = {at: many + index for index, at in enumerate(doubled)}
    links = []
    for person, at in enumerate(list(range(many)) + doubled):
        after = at + 1 if at + 1 < many else back
        crossed = is_moving(house, nodes[at]) and word_of(house, places[at]) == "younger"
        second = person >= many
        links.append((nodes[at], after if second == crossed else twins.get(after, after), places[at]))
    return Cast(house, kind, helpers, links, many)


def cast_of_plan(house, raises, way, ring):
    """The Cast of a person for each edge of a way and a closed walk, told as by held_plan.

    Where others come to a moving node it has two persons. Person 0 is raised from the first kind of raises to the last.
    """
    edges = way + ring
    places = [places_of_edge(house, node, other, word)[0] for node, other, word in edges]
    helpers = [helper_for(house, kind) for kind in raises[:-1]]
    return cast_along(house, raises[0], helpers, [edge[0] for edge in edges], places, len(way))


def eldest_first(persons, couples):
    """These persons by age, where couples (elder, younger) tell it."""
    elders = {person: [] for person in persons}
    for elder, younger in couples:
        if elder in elders and younger in elders:
            elders[younger].append(elder)
    order = []
    while len(order) < len(persons):
        for person in persons:
            if person not in order and all([elder in order for elder in elders[person]]):
                order.append(person)
    return order


def helper_for(house, kind):
    """Who can put out person 0 while it is of a kind, as helper_at tells it."""
    return helper_at(house, outs_at(house, kind)[0])


def helper_at(house, place):
    """Who can put another one out as the judge says at a place: a tuple (sort, kind, yields, elder).

    It is met at a lock of this sort; the other one yields to it, or it ousts that; it is elder than that or younger.
    """
    sort, asker, holder, _ = place
    yields = word_at(house, place) == "yield"
    return (sort, holder if yields else asker, yields, word_of(house, place) == "elder")


def helper_program(helper, number):
    """The program of a helper who is met at the lock with this number."""
    sort, kind, yields, _ = helper
    lock = (sort, number)
    # Who is yielded to has to hold the lock still, and so has something left to do.
    return (kind, (lock, "work")) if yields else (kind, (lock,))


def helper_start(helper, person):
    """The steps by which a helper comes to where it meets person 0."""
    return [person, person] if helper[2] else [person]


def raising_row(helpers, first):
    """The steps by which helpers, who are numbered from first on, put person 0 out one behind the other.

    The lock at which it meets a helper is the deed of person 0 with the index of this helper. Elder helpers have
    done what helper_start tells; each helper is ended at the end.
    """
    row = []
    for index, helper in enumerate(helpers):
        person = first + index
        row.append(0)
        if not helper[3]:
            row.extend(helper_start(helper, person))
        row.extend([0] * (index + 1))
        row.extend([person] if helper[2] else [person, person])
    return row
