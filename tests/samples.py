"""Values for the tests: drawn houses and programs, and values that are none."""

import random

from comesthrough.errors import NoKind, ThroughError

WORDS = ("oust", "wait", "yield")
NAMES = ("ab", "b", "cdefghij", "zz", "y", "x", "w", "longword")


def nested(many, thing):
    for _ in range(many):
        thing = (thing,)
    return thing


def nested_list(many):
    thing = []
    for _ in range(many):
        thing = [thing]
    return thing


def junk():
    """Values of any kind, new each time."""
    return [
        None, True, False, 0, 1, 2, -1, 7, 10 ** 39, -(10 ** 39), "", "a", "b", "work", "wait", "yield", "oust",
        "stand", "anew", "elder", "younger", "Wait", " ", "\n", "a b", "abcdefghi", "~", "kind a keeps",
        (), [], {}, (()), ((),), [()], {"a": 1}, {0: 1}, (0,), (0, 0), (True, 1), (0, 1, 2), (0, 1, 0, 1), [0, 0],
        ("a", True, 0), (0, ("work",)), (0, ((0, 0),)), ("stand", 0), ("anew", 0), [("stand", 0)],
        ((("a", True, 0),), ("s",), (((("wait", "yield"),),),)),
        nested(20, 0), nested_list(20), {"a": {"b": {"c": [1, (2, {})]}}}, [None] * 6000, ("a",) * 6000,
        ThroughError(), NoKind([1]), NoKind, len,
    ]


def changed_leaves(thing, others):
    """All values that are a nested tuple with one leaf exchanged, others(leaf) being what comes in its place."""
    if not isinstance(thing, tuple):
        yield from others(thing)
        return
    for at, part in enumerate(thing):
        for other in changed_leaves(part, others):
            yield thing[:at] + (other,) + thing[at + 1:]


def changed_tuples(thing, others):
    """All values that are a nested tuple with one tuple in it, or itself, exchanged."""
    if not isinstance(thing, tuple):
        return
    yield from others(thing)
    for at, part in enumerate(thing):
        for other in changed_tuples(part, others):
            yield thing[:at] + (other,) + thing[at + 1:]


def spoilt_tuples(thing):
    """What is not that tuple any more: a list, one item too many or too few, something else altogether."""
    return [list(thing), thing + thing[-1:], thing + (None,), thing[:-1], (), [], None, {}, "a", 0, True, (thing,)]


def spoilt_leaf(leaf):
    """What is of another kind than a leaf, truths in the place of integers and integers in that of truths."""
    if isinstance(leaf, bool):
        return [0, 1, None, "True", (leaf,), [leaf]]
    if isinstance(leaf, int):
        return [True, False, None, str(leaf), (leaf,), [leaf], -1, -(10 ** 39)]
    return [None, True, False, 0, 1, (leaf,), [leaf], {leaf: leaf}, leaf + " ", leaf.upper(), leaf + "\n", "", "abcdefghi"]


def drawn_house(draw, kinds=None, sorts=None, words=WORDS, rising=True, renewing=True):
    kinds = kinds or draw.randint(1, 5)
    sorts = sorts or draw.randint(1, 3)
    names = draw.sample(NAMES, kinds)
    rises = [draw.randint(kind, kinds - 1) if rising and draw.random() < 0.6 else kind for kind in range(kinds)]
    keeps = [not renewing or draw.random() < 0.5 for _ in range(kinds)]
    judge = tuple(
        tuple(tuple((draw.choice(words), draw.choice(words)) for _ in range(kinds)) for _ in range(kinds))
        for _ in range(sorts)
    )
    return (tuple(zip(names, keeps, rises)), tuple(draw.sample(NAMES, sorts)), judge)


def drawn_houses(seed, many, **told):
    """A list of drawn houses, the same ones for the same seed."""
    draw = random.Random(seed)
    return [drawn_house(draw, **told) for _ in range(many)]


def drawn_program(draw, house, locks=3, deeds=4):
    """A program that takes locks with numbers below locks; at most so many deeds."""
    taken = []
    for _ in range(draw.randint(1, deeds)):
        deed = (draw.randrange(len(house[1])), draw.randrange(locks))
        taken.append("work" if deed in taken or draw.random() < 0.2 else deed)
    return (draw.randrange(len(house[0])), tuple(taken))


def refusal(call, *told):
    """The error that a call raises, or None."""
    try:
        call(*told)
    except ThroughError as error:
        return error
    return None


AGED = ((("oust", "yield"),) * 5 + (("oust", "wait"),) * 3 + (("wait", "yield"),) * 3
        + (("yield", "wait"), ("yield", "oust"), ("wait", "oust")))


def aged_house(draw, kinds=None, couples=AGED):
    """A house in which the elder one mostly comes through, so that many a kind is held off by newcomers alone."""
    kinds = kinds or draw.randint(1, 5)
    house = drawn_house(draw, kinds=kinds, sorts=draw.choice([1, 1, 2]))
    judge = tuple(tuple(tuple(draw.choice(couples) for _ in range(kinds)) for _ in range(kinds)) for _ in house[1])
    return house[:2] + (judge,)


def aged_houses(seed, many, **told):
    draw = random.Random(seed)
    return [aged_house(draw, **told) for _ in range(many)]
