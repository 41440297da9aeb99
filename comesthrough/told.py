"""Who of told programs, which alone are in a hall, can be held off for ever."""

from comesthrough.errors import TooMany
from comesthrough.forms import is_work
from comesthrough.laps import fair_parts, lap_in
from comesthrough.lots import least_lots
from comesthrough.runs import held_off, is_fair, is_round, is_run, is_stuck, led
from comesthrough.spaces import Space

ORDERS_MOST = 24
PROGRAMS_MOST = 6


def told_story(house, programs, person):
    space = Space(house, programs)
    for number in space.stuck():
        if person in space.not_ended(number):
            return (programs, space.row_to(number))
    for part in fair_parts(space):
        if person in space.not_ended(part[0]):
            return (programs, space.row_to(part[0]), tuple(lap_in(space, part)))
    return None


def is_told_story(house, programs, person, thing):
    # Whether there are too many states is asked ahead of all else.
    Space(house, programs)
    if is_run(house, thing):
        return thing[0] == programs and is_stuck(house, thing) and not led(house, thing).is_ended(person)
    if not (is_round(house, thing) and thing[0] == programs):
        return False
    return is_fair(house, thing) and person in held_off(house, thing)


def held_persons(house, programs):
    space = Space(house, programs)
    numbers = space.stuck() + [part[0] for part in fair_parts(space)]
    return sorted(set([person for number in numbers for person in space.not_ended(number)]))


def is_safe(house, programs):
    return not held_persons(house, programs)


def safe_orders(house, programs, person):
    kind, deeds = programs[person]
    _ask_few_orders(deeds)
    safe = []
    for order in _orders_of(deeds):
        if is_safe(house, programs[:person] + ((kind, order),) + programs[person + 1:]):
            safe.append(order)
    return safe


def least_company(house, programs, person):
    if len(programs) > PROGRAMS_MOST:
        raise TooMany(PROGRAMS_MOST)
    if person not in held_persons(house, programs):
        return []

    def is_enough(others):
        persons = sorted(others + (person,))
        return persons.index(person) in held_persons(house, tuple([programs[one] for one in persons]))

    return least_lots([other for other in range(len(programs)) if other != person], is_enough)


def _ask_few_orders(deeds):
    """Raise TooMany if there are too many tuples of these deeds, of which alike ones are all "work"."""
    locks = [deed for deed in deeds if not is_work(deed)]
    many = 1
    for at in range(len(locks)):
        # Each lock has one of the places that those ahead of it have left.
        many *= len(deeds) - at
        if many > ORDERS_MOST:
            raise TooMany(ORDERS_MOST)


def _orders_of(deeds):
    """The ascending list of the tuples of these deeds, alike ones once, "work" being less than each lock."""
    locks = [deed for deed in deeds if not is_work(deed)]
    orders = [("work",) * (len(deeds) - len(locks))]
    for lock in locks:
        orders = [order[:at] + (lock,) + order[at:] for order in orders for at in range(len(order) + 1)]
    return sorted(orders, key=_with_least_work)


def _with_least_work(order):
    """Deeds with what is less than each lock in the place of "work"."""
    return [() if is_work(deed) else deed for deed in order]
