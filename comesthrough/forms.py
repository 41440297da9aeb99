"""What a value is: each function takes a value of any kind, and raises nothing."""

WORDS = ("oust", "wait", "yield")


def is_integer(thing):
    return isinstance(thing, int) and not isinstance(thing, bool)


def is_index(many, thing):
    """Tell whether a value is the index of one of so many."""
    return is_integer(thing) and 0 <= thing < many


def is_tuple(many, thing):
    """Tell whether a value is a tuple of so many items."""
    return isinstance(thing, tuple) and len(thing) == many


def is_work(thing):
    """Tell whether a value is the deed "work"."""
    return isinstance(thing, str) and thing == "work"


def is_name(thing):
    return isinstance(thing, str) and 1 <= len(thing) <= 8 and all(["a" <= sign <= "z" for sign in thing])


def is_word(thing):
    return isinstance(thing, str) and thing in WORDS


def is_kind(thing):
    if not is_tuple(3, thing):
        return False
    name, keeps, rise = thing
    return is_name(name) and isinstance(keeps, bool) and is_integer(rise) and rise >= 0


def is_house(thing):
    if not is_tuple(3, thing):
        return False
    kinds, sorts, judge = thing
    return _are_kinds(kinds) and _are_sorts(sorts) and _is_judge(len(kinds), len(sorts), judge)


def is_lock(house, thing):
    if not is_tuple(2, thing):
        return False
    sort, number = thing
    return is_index(len(house[1]), sort) and is_integer(number) and number >= 0


def is_program(house, thing):
    if not is_tuple(2, thing):
        return False
    kind, deeds = thing
    return is_index(len(house[0]), kind) and isinstance(deeds, tuple) and _are_deeds(house, deeds)


def is_place(house, thing):
    if not is_tuple(4, thing):
        return False
    sort, asker, holder, side = thing
    if not is_index(len(house[1]), sort):
        return False
    return is_index(len(house[0]), asker) and is_index(len(house[0]), holder) and is_index(2, side)


def _are_kinds(thing):
    if not (isinstance(thing, tuple) and 1 <= len(thing) <= 5 and all([is_kind(kind) for kind in thing])):
        return False
    return _are_unlike([kind[0] for kind in thing]) and all(
        [index <= kind[2] < len(thing) for index, kind in enumerate(thing)]
    )


def _are_sorts(thing):
    if not (isinstance(thing, tuple) and 1 <= len(thing) <= 3):
        return False
    return all([is_name(name) for name in thing]) and _are_unlike(thing)


def _is_judge(kinds_many, sorts_many, thing):
    return is_tuple(sorts_many, thing) and all([_is_table(kinds_many, table) for table in thing])


def _is_table(kinds_many, thing):
    """Tell whether a value says what happens for locks of one sort."""
    return is_tuple(kinds_many, thing) and all([_is_row(kinds_many, row) for row in thing])


def _is_row(kinds_many, thing):
    """Tell whether a value says what happens to askers of one kind."""
    return is_tuple(kinds_many, thing) and all([_is_couple(couple) for couple in thing])


def _is_couple(thing):
    return is_tuple(2, thing) and is_word(thing[0]) and is_word(thing[1])


def _are_deeds(house, deeds):
    locks = [deed for deed in deeds if not is_work(deed)]
    # Only locks are sure to go into a set, so whether they are unlike is asked last.
    return len(deeds) >= 1 and all([is_lock(house, lock) for lock in locks]) and _are_unlike(locks)


def _are_unlike(things):
    return len(set(things)) == len(things)
