"""Fair rounds among all states of programs.

A CLAIM is what a fair round grants to whoever can step: (person, -1), that it steps, and, if it is at a lock that
nobody holds, (person, index), that it takes this lock, which is its deed with this index.
"""


def fair_parts(space):
    """Lists of states that are gone round for ever by some fair round, one for each knot of states that has such."""
    parts = [_fair_part(space, part) for part in _strong_parts(space, list(range(len(space.states))))]
    return [part for part in parts if part is not None]


def lap_in(space, part):
    """The persons that step in a fair lap from the first of these states, which fair_parts returned, back to it."""
    inside = {number: True for number in part}
    home = here = part[0]
    row = []
    # For each claim that was made whether it was granted.
    granted = {}
    while not row or here != home or not all([granted[claim] for claim in granted]):
        left = [claim for claim in granted if not granted[claim]]
        for number, way in _shortest(space, inside, here, home, left):
            for claim in _claims_at(space, number):
                granted.setdefault(claim, False)
            for claim in _claims_of(space, number, way):
                granted[claim] = True
            row.append(way[0])
            here = way[2]
    return row


def _claims_of(space, number, way):
    """The claims of a person that can step in a state: all of them are granted by its step, which is this way."""
    person, word, _ = way
    claims = [(person, -1)]
    if word == "take":
        claims.append((person, space.states[number][0][person][1]))
    return claims


def _claims_at(space, number):
    return [claim for way in space.ways[number] for claim in _claims_of(space, number, way)]


def _fair_part(space, part):
    """Those of states, each of which leads to each, among which all claims can be granted; None if there are none."""
    left = [part]
    while left:
        numbers = left.pop()
        inside = {number: True for number in numbers}
        granted = {}
        for number in numbers:
            for way in space.ways[number]:
                for claim in _claims_of(space, number, way) if way[2] in inside else []:
                    granted[claim] = True
        # Where somebody claims what is never granted, no fair round comes by.
        kept = [number for number in numbers if all([one in granted for one in _claims_at(space, number)])]
        if len(kept) == len(numbers):
            return numbers
        left.extend(_strong_parts(space, kept))
    return None


def _strong_parts(space, numbers):
    """The knots of these states: ascending lists, in each of which each state leads to each by steps among them."""
    inside = {number: True for number in numbers}
    heads = {number: [way[2] for way in space.ways[number] if way[2] in inside] for number in numbers}
    tails = {number: [] for number in numbers}
    for number in numbers:
        for head in heads[number]:
            tails[head].append(number)
    parts = []
    done = {}
    for number in _left_order(heads)[::-1]:
        if number not in done:
            part = _reached(tails, number, done)
            for one in part:
                done[one] = True
            if len(part) > 1 or number in heads[number]:
                parts.append(sorted(part))
    return sorted(parts)


def _left_order(heads):
    """The states in the order in which a search that goes as deep as can be leaves them for the last time."""
    order = []
    seen = {}
    for root in heads:
        trail = [] if root in seen else [(root, 0)]
        seen[root] = True
        while trail:
            number, at = trail.pop()
            if at == len(heads[number]):
                order.append(number)
                continue
            trail.append((number, at + 1))
            head = heads[number][at]
            if head not in seen:
                seen[head] = True
                trail.append((head, 0))
    return order


def _reached(tails, number, done):
    """The states that are not done from which one comes to a state, itself among them."""
    found = {number: True}
    left = [number]
    while left:
        here = left.pop()
        for tail in tails[here]:
            if tail not in done and tail not in found:
                found[tail] = True
                left.append(tail)
    return list(found)


def _shortest(space, inside, here, home, claims):
    """The fewest steps, tuples (number, way), from a state on until a claim is granted; home, if there is no claim."""
    came = {}
    front = [here]
    while front:
        fresh = []
        for number in front:
            for way in space.ways[number]:
                if way[2] in inside:
                    if way[2] == home if not claims else _grants(space, number, way, claims):
                        return _trail(came, here, number) + [(number, way)]
                    if way[2] != here and way[2] not in came:
                        came[way[2]] = (number, way)
                        fresh.append(way[2])
        front = fresh
    return []


def _grants(space, number, way, claims):
    return any([claim in claims for claim in _claims_of(space, number, way)])


def _trail(came, here, number):
    """The steps by which a search came from a state to another one."""
    steps = []
    at = number
    while at != here:
        steps.append(came[at])
        at = came[at][0]
    return steps[::-1]
