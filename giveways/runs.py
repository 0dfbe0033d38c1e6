"""Turns one behind another: CHOICES that are refused, and CHOICES that are a run."""

from giveways.checks import check_tasks
from giveways.errors import NotReady, NotWhole
from giveways.play import Scene, beginning, is_ready, ready_tasks, state_behind_turn


def check_ready(plan, state, task):
    """Refuse a task that is not ready at this STATE."""
    if not is_ready(Scene(plan, state), task):
        raise NotReady(task)


def checked_turn(plan, state, task):
    """The STATE behind the turn of this task, which may not be ready."""
    check_ready(plan, state, task)
    return state_behind_turn(plan, state, task)


def played(plan, choices):
    """The list of the STATES behind no turn, behind one, and so on to all."""
    check_tasks(plan, choices)
    row = [beginning(plan)]
    for task in choices:
        row.append(checked_turn(plan, row[-1], task))
    return row


def states_if_run(plan, thing):
    """The list of the STATES behind no turn, behind one, and so on, if thing is a run, otherwise None."""
    if not isinstance(thing, tuple):
        return None
    row = [beginning(plan)]
    for task in thing:
        if not isinstance(task, str) or task not in plan.stand_at:
            return None
        if not is_ready(Scene(plan, row[-1]), task):
            return None
        row.append(state_behind_turn(plan, row[-1], task))
    return row


def state_if_run(plan, thing):
    """The STATE behind thing if it is CHOICES that are a run, otherwise None."""
    row = states_if_run(plan, thing)
    return row[-1] if row is not None else None


def state_if_whole(plan, thing):
    """The STATE behind thing if it is a whole run, otherwise None."""
    state = state_if_run(plan, thing)
    return state if state is not None and ready_tasks(plan, state) == () else None


def told_by(plan, choices):
    """What these CHOICES tell, which must be a whole run."""
    state = played(plan, choices)[-1]
    if ready_tasks(plan, state) != ():
        raise NotWhole()
    return state


def first_ready(plan, state, row):
    """The first task in row that is ready, None if none is."""
    scene = Scene(plan, state)
    for task in row:
        if is_ready(scene, task):
            return task
    return None


def turns_by(plan, state, row):
    """The turns on from a STATE, each by the first one in row that is ready, till none is."""
    turns = []
    task = first_ready(plan, state, row)
    while task is not None:
        turns.append(task)
        state = state_behind_turn(plan, state, task)
        task = first_ready(plan, state, row)
    return tuple(turns)
