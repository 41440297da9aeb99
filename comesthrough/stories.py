"""Stories: runs and rounds by which person 0 is held off for ever."""

from comesthrough.casts import cast_of_plan
from comesthrough.held import held_plan
from comesthrough.runs import is_fair, is_round, led
from comesthrough.standing import is_standing_run


def held_story(house, kind):
    plan = held_plan(house, kind)
    return None if plan is None else story_of(house, plan)


def story_of(house, plan):
    raises, way, ring = plan
    return cast_of_plan(house, raises, way, ring).story()


def is_story(house, kind, thing):
    return is_standing_run(house, kind, thing) or _is_holding_round(house, kind, thing)


def _is_holding_round(house, kind, thing):
    """Tell whether a value is a fair round that holds off person 0, whose program has this kind."""
    if not is_round(house, thing):
        return False
    programs, row, _ = thing
    if programs[0][0] != kind or led(house, (programs, row)).is_ended(0):
        return False
    return is_fair(house, thing)
