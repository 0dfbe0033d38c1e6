"""Turns one behind another: CHOICES that are refused, and CHOICES that are a run."""

from giveways.errors import NotReady, NoTask
from giveways.play import Scene, beginning, is_ready, state_behind_turn


def check_task(plan, task):
    """Refuse a string that is none of the tasks."""
    if task not in plan.stand_at:
        raise NoTask(task)


def check_tasks(plan, names):
    """Refuse the first string that is none of the tasks."""
    for name in names:
        check_task(plan, name)


def checked_turn(plan, state, task):
    """The STATE behind the turn of this task, which may not be ready."""
    if not is_ready(Scene(plan, state), task):
        raise NotReady(task)
    return state_behind_turn(plan, state, task)


def played(plan, choices):
    """The list of the STATES behind no turn, behind one, and so on to all."""
    check_tasks(plan, choices)
    row = [beginning(plan)]
    for task in choices:
        row.append(checked_turn(plan, row[-1], task))
    return row


def state_behind(plan, thing):
    """The STATE behind thing if it is CHOICES that are a run, otherwise None."""
    if not isinstance(thing, tuple):
        return None
    state = beginning(plan)
    for task in thing:
        if not isinstance(task, str) or task not in plan.stand_at:
            return None
        if not is_ready(Scene(plan, state), task):
            return None
        state = state_behind_turn(plan, state, task)
    return state


def first_ready(plan, state, row):
    """The first task in row that is ready, None if none is."""
    scene = Scene(plan, state)
    for task in row:
        if is_ready(scene, task):
            return task
    return None


def turns_by(plan, state, row):
    """The turns on from a STATE, each by the first one in row that is ready, till none is."""
    turns = []
    task = first_ready(plan, state, row)
    while task is not None:
        turns.append(task)
        state = state_behind_turn(plan, state, task)
        task = first_ready(plan, state, row)
    return tuple(turns)
