"""The hall, rounds and the graph once more, as plainly as the document's words have them, to compare with."""

import functools
import random

from tests.samples import drawn_house, drawn_program


class Person:
    def __init__(self, program):
        self.kind, self.deeds = program
        self.status = "out"
        self.at = None
        self.waits = None


class Model:
    """A hall that finds out anew each time what it is asked."""

    def __init__(self, house, programs=()):
        self.kinds, self.sorts, self.judge = house
        self.people = [Person(program) for program in programs]
        self.order = []

    def holds(self, person):
        one = self.people[person]
        return [deed for deed in one.deeds[:one.at] if deed != "work"] if one.status == "at" else []

    def holder(self, lock):
        holders = [person for person in range(len(self.people)) if lock in self.holds(person)]
        assert len(holders) <= 1
        return holders[0] if holders else None

    def can_step(self, person):
        one = self.people[person]
        return one.status == "out" or (one.status == "at" and one.waits is None)

    def lock_at(self, person):
        one = self.people[person]
        return one.deeds[one.at] if one.status == "at" and one.deeds[one.at] != "work" else None

    def can_take(self, person):
        lock = self.lock_at(person)
        return lock is not None and self.can_step(person) and self.holder(lock) is None

    def go_on(self, person):
        one = self.people[person]
        one.at += 1
        if one.at == len(one.deeds):
            one.status = "ended"
            self.order.remove(person)
            self.free(person)

    def free(self, person):
        for other in self.people:
            if other.waits == person:
                other.waits = None

    def put_out(self, person):
        one = self.people[person]
        _, keeps, rise = self.kinds[one.kind]
        one.status, one.at, one.waits = "out", None, None
        if not keeps:
            self.order.remove(person)
        one.kind = rise
        self.free(person)

    def step(self, person):
        one = self.people[person]
        if one.status == "out":
            one.status, one.at = "at", 0
            if person not in self.order:
                self.order.append(person)
            return "begin"
        lock = self.lock_at(person)
        holder = None if lock is None else self.holder(lock)
        if holder is None:
            self.go_on(person)
            return "work" if lock is None else "take"
        elder = self.order.index(person) < self.order.index(holder)
        word = self.judge[lock[0]][one.kind][self.people[holder].kind][0 if elder else 1]
        if word == "wait":
            one.waits = holder
        elif word == "yield":
            self.put_out(person)
        else:
            self.put_out(holder)
        return word

    def place(self, person):
        one = self.people[person]
        return {"out": -1, "at": one.at, "ended": len(one.deeds)}[one.status]

    def state(self):
        told = tuple((one.kind, self.place(person), one.waits) for person, one in enumerate(self.people))
        return (told, tuple(self.order))


def model_words(house, run):
    """What each step of a run does, or the index of the first one that cannot be done."""
    model = Model(house, run[0])
    words = []
    for index, person in enumerate(run[1]):
        if person >= len(run[0]) or not model.can_step(person):
            return index
        words.append(model.step(person))
    return words


def model_unfair(house, lap):
    programs, row, again = lap
    model = Model(house, programs)
    for person in row:
        model.step(person)
    able, at_free, took = set(), set(), set()
    for person in again:
        for one in range(len(programs)):
            if model.can_step(one):
                able.add(one)
            if model.can_take(one):
                at_free.add((one, model.lock_at(one)))
        lock = model.lock_at(person)
        if model.step(person) == "take":
            took.add((person, lock))
    return sorted({one for one in able if one not in again} | {one for one, lock in at_free - took})


def drawn_run(draw, house, persons=None, steps=40, locks=2, deeds=4):
    """A RUN of drawn programs."""
    programs = tuple(drawn_program(draw, house, locks, deeds) for _ in range(persons or draw.randint(2, 4)))
    return run_on(draw, house, programs, steps)


def tight_run(draw, house, steps=60):
    """A RUN of two to four programs each of which takes three locks of one sort, in any order."""
    kinds = range(len(house[0]))
    locks = [(0, number) for number in range(3)]
    programs = tuple((draw.choice(kinds), tuple(draw.sample(locks, 3))) for _ in range(draw.randint(2, 4)))
    return run_on(draw, house, programs, steps)


def run_on(draw, house, programs, steps):
    """A RUN of these programs of at most so many steps; it is short if nobody can step any more."""
    model = Model(house, programs)
    row = []
    for _ in range(steps):
        able = [person for person in range(len(programs)) if model.can_step(person)]
        if not able:
            break
        row.append(draw.choice(able))
        model.step(row[-1])
    return (programs, tuple(row))


def drawn_rounds(seed, many, words=("oust", "yield", "wait")):
    """Couples of a house and a ROUND of it."""
    draw = random.Random(seed)
    found = []
    while len(found) < many:
        house = drawn_house(draw, kinds=draw.randint(1, 2), sorts=1, words=words)
        programs, row = drawn_run(draw, house, draw.randint(2, 3), 30, 2, 3)
        model = Model(house, programs)
        states = [model.state()]
        for person in row:
            model.step(person)
            states.append(model.state())
        couples = [
            (one, other) for one in range(len(states)) for other in range(one + 1, len(states))
            if states[one] == states[other]
        ]
        if couples:
            one, other = draw.choice(couples)
            found.append((house, (programs, row[:one], row[one:other])))
    return found


def model_edges(house):
    """All edges with their places: a dict from (node, other, word), node by node as the document goes."""
    kinds, sorts, judge = house
    last = [kind for kind in range(len(kinds)) if kinds[kind][2] == kind]
    found = {}
    for sort in range(len(sorts)):
        for p in range(len(kinds)):
            for q in range(len(kinds)):
                for side, word in ((0, "younger"), (1, "elder")):
                    if judge[sort][p][q][side] == "wait":
                        found.setdefault((("stand", p), ("stand", q), word), []).append((sort, p, q, side))
                    if judge[sort][p][q][side] == "yield" and p in last:
                        found.setdefault((("anew", p), ("stand", q), word), []).append((sort, p, q, side))
                        if q in last:
                            found.setdefault((("anew", p), ("anew", q), word), []).append((sort, p, q, side))
                for side, word in ((0, "elder"), (1, "younger")):
                    if judge[sort][q][p][side] == "oust" and p in last and q in last:
                        found.setdefault((("anew", p), ("anew", q), word), []).append((sort, q, p, side))
    return {edge: sorted(places) for edge, places in found.items()}


def model_moves(house, node):
    return node[0] == "anew" and house[0][node[1]][1] is False


def model_is_left_out(house, edge):
    moves = (model_moves(house, edge[0]), model_moves(house, edge[1]))
    return (moves == (False, True) and edge[2] == "elder") or (moves == (True, False) and edge[2] == "younger")


@functools.lru_cache(maxsize=2000)
def kept_edges(house):
    return tuple(edge for edge in sorted(model_edges(house)) if not model_is_left_out(house, edge))


def model_kept_edges(house):
    return list(kept_edges(house))


@functools.lru_cache(maxsize=2000)
def model_leads(house):
    """A dict from the nodes to the edges from them."""
    leads = {}
    for edge in kept_edges(house):
        leads.setdefault(edge[0], []).append(edge)
    return leads


def model_reach(edges, nodes):
    """All couples (node, other) for which a way of one edge or more leads from one to the other."""
    reach = {(edge[0], edge[1]) for edge in edges}
    for via in nodes:
        for one in nodes:
            for other in nodes:
                if (one, via) in reach and (via, other) in reach:
                    reach.add((one, other))
    return reach


def model_knots(house, nodes):
    reach = model_reach(model_kept_edges(house), nodes)
    return sorted({
        tuple(other for other in nodes if (one, other) in reach and (other, one) in reach)
        for one in nodes if (one, one) in reach
    })


def model_is_bad(house, knot):
    words = {edge[2] for edge in model_kept_edges(house) if edge[0] in knot and edge[1] in knot}
    return len(words) == 2 or ("younger" in words and any(model_moves(house, node) for node in knot))


def model_nodes(house):
    """All nodes, ascending."""
    last = [kind for kind in range(len(house[0])) if house[0][kind][2] == kind]
    return sorted([("stand", kind) for kind in range(len(house[0]))] + [("anew", kind) for kind in last])


def model_nodes_of(house, kind):
    return [node for node in model_nodes(house) if node[1] == kind]


def model_leading(house, goals):
    """The nodes that are goals, or from which a way leads to one."""
    nodes = model_nodes(house)
    reach = model_reach(model_kept_edges(house), nodes)
    return [node for node in nodes if node in goals or any((node, goal) in reach for goal in goals)]


def model_held_nodes(house):
    knots = model_knots(house, model_nodes(house))
    return model_leading(house, [node for knot in knots if model_is_bad(house, knot) for node in knot])


def model_outs(house, kind):
    """The places at which a kind can be put out, with what the other one is to it."""
    _, sorts, judge = house
    found = []
    for sort in range(len(sorts)):
        for other in range(len(house[0])):
            for side in (0, 1):
                if judge[sort][kind][other][side] == "yield":
                    found.append(((sort, kind, other, side), ("younger", "elder")[side]))
                if judge[sort][other][kind][side] == "oust":
                    found.append(((sort, other, kind, side), ("elder", "younger")[side]))
    return sorted(found)


def model_raised(house, kind):
    """The kinds to which a program can be raised, itself first."""
    raised = [kind]
    while model_outs(house, raised[-1]) and house[0][raised[-1]][2] != raised[-1]:
        raised.append(house[0][raised[-1]][2])
    return tuple(raised)


def model_nodes_ever(house, kind):
    return [node for raised in model_raised(house, kind) for node in model_nodes_of(house, raised)]


def model_is_held(house, kind):
    held = model_held_nodes(house)
    return any(node in held for node in model_nodes_ever(house, kind))


def model_turns(house, walk):
    words = {edge[2] for edge in walk}
    moves = any(model_moves(house, edge[0]) for edge in walk)
    return words == {"elder", "younger"} or (moves and "younger" in words)


def model_is_story(house, kind, thing):
    """Whether a tuple of the form of a run or a round is a story of a kind."""
    programs, row = thing[0], thing[1]
    again = thing[2] if len(thing) == 3 else ()
    if not programs or programs[0][0] != kind or not isinstance(model_words(house, (programs, row + again)), list):
        return False
    states = []
    for steps in (row, row + again):
        model = Model(house, programs)
        for person in steps:
            model.step(person)
        states.append(model.state())
        if model.people[0].status == "ended":
            return False
    if len(thing) == 2:
        return not any(model.can_step(person) for person in range(len(programs)))
    return len(again) > 0 and states[0] == states[1] and model_unfair(house, thing) == []


def model_outs_done(house, run):
    """What put persons out in a run: tuples (person, its kind, word, what the other one was to it, the step)."""
    model = Model(house, run[0])
    found = []
    for index, person in enumerate(run[1]):
        lock, order = model.lock_at(person), list(model.order)
        holder = None if lock is None else model.holder(lock)
        kinds = [one.kind for one in model.people]
        word = model.step(person)
        if word in ("yield", "oust"):
            one, other = (person, holder) if word == "yield" else (holder, person)
            told = "elder" if order.index(other) < order.index(one) else "younger"
            found.append((one, kinds[one], word, told, index))
    return found


def drawn_plan(draw, house, kind, most):
    """A plan of a kind as held_plan returns them, of at most so many edges, drawn at random; or None."""
    raises = model_raised(house, kind)
    raises = raises[:draw.randint(1, len(raises))]
    edges = model_kept_edges(house)
    node = draw.choice(model_nodes_of(house, raises[-1]))
    walk, starts, finds = [], [node], []
    while len(walk) < most and [edge for edge in edges if edge[0] == node]:
        walk.append(draw.choice([edge for edge in edges if edge[0] == node]))
        node = walk[-1][1]
        starts.append(node)
    for begin in range(len(walk)):
        for end in range(begin + 1, len(walk) + 1):
            if starts[begin] == starts[end] and model_turns(house, walk[begin:end]):
                finds.append((begin, end))
    if not finds:
        return None
    begin, end = draw.choice(finds)
    return (raises, tuple(walk[:begin]), tuple(walk[begin:end]))


def persons_enough(house, plan):
    """How many persons are enough for a plan by [8]."""
    raises, way, ring = plan
    return len(raises) + sum(2 if model_moves(house, edge[1]) else 1 for edge in way + ring)
