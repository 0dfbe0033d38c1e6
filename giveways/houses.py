"""Runs of a HOUSE: its STATES, its turns, and who waits how long."""

from giveways.checks import check_task
from giveways.errors import NoTask
from giveways.plans import Plan
from giveways.play import DIARY, NUMBER, STATUS, Scene, beginning, is_ready, ready_tasks, state_behind_turn, step_ahead
from giveways.runs import checked_turn, first_ready, played, state_if_run, state_if_whole, told_by, turns_by
from giveways.shapes import tupled


def begin(house):
    """The STATE at the beginning."""
    return beginning(Plan(tupled(house)))


def ready(house, state):
    """The set of the tasks that are ready."""
    return ready_tasks(Plan(tupled(house)), tupled(state))


def next_step(house, state, task):
    """The next STEP of a task that is idle or going; None if there is none, or it is over."""
    plan = Plan(tupled(house))
    check_task(plan, task)
    return step_ahead(Scene(plan, tupled(state)), task)


def turn(house, state, task):
    """The STATE behind the turn of this task, settled."""
    plan = Plan(tupled(house))
    check_task(plan, task)
    return checked_turn(plan, tupled(state), task)


def states(house, choices):
    """The list of the STATES, the beginning first, then behind each turn."""
    return played(Plan(tupled(house)), choices)


def after(house, choices):
    """The STATE behind these turns."""
    return states(house, choices)[-1]


def is_run(house, thing):
    """Whether thing is CHOICES that are a run of the HOUSE."""
    return state_if_run(Plan(tupled(house)), thing) is not None


def is_done(house, state):
    """Whether nothing is ready."""
    return ready(house, state) == ()


def is_whole(house, thing):
    """Whether thing is a whole run."""
    return state_if_whole(Plan(tupled(house)), thing) is not None


def told(house, choices):
    """What is told by a whole run."""
    return told_by(Plan(tupled(house)), choices)


def marks(house, choices):
    """The tuple of the MARKS of the STEPS that the turns take."""
    row = states(house, choices)
    return tuple([(task, stand_of(row[at], task)[NUMBER]) for at, task in enumerate(choices)])


def places_of(house, choices, task):
    """The numbers, from 0, of the turns of this task."""
    plan = Plan(tupled(house))
    check_task(plan, task)
    played(plan, choices)
    return tuple([at for at, name in enumerate(choices) if name == task])


def stand_of(state, task):
    """The row of this task in the stands."""
    for row in state[1]:
        if row[0] == task:
            return tupled(row)
    raise NoTask(task)


def diary_of(state, task):
    """The diary of this task."""
    return stand_of(state, task)[DIARY]


def is_over(state, task):
    """Whether this task is ended, stopped or failed."""
    return stand_of(state, task)[STATUS] not in ("idle", "going")


def left_over(state):
    """The set of the tasks that are going."""
    return tuple([row[0] for row in state[1] if row[STATUS] == "going"])


def own_run(house):
    """The whole run by the house's own row, in which who took a turn goes to the end."""
    plan = Plan(tupled(house))
    state = beginning(plan)
    row = list(plan.first)
    run = []
    task = first_ready(plan, state, row)
    while task is not None:
        step = step_ahead(Scene(plan, state), task)
        row.remove(task)
        row.append(task)
        if step[0] == "start":
            row.append(step[1])
        run.append(task)
        state = state_behind_turn(plan, state, task)
        task = first_ready(plan, state, row)
    return tuple(run)


def run_by(house, row):
    """The whole run in which each turn is taken by the first one in row that is ready."""
    plan = Plan(tupled(house))
    return turns_by(plan, beginning(plan), row)


def gone_on(house, choices):
    """These turns, and behind them, till nothing is ready, each one by the least task that is."""
    plan = Plan(tupled(house))
    state = played(plan, choices)[-1]
    return tuple(choices) + turns_by(plan, state, plan.tasks)


def rounds(house):
    """The rounds of a whole run: in each those who are ready, ascending, if they still are."""
    plan = Plan(tupled(house))
    state = beginning(plan)
    lots = []
    waiting = ready_tasks(plan, state)
    while waiting:
        lot = []
        for task in waiting:
            if is_ready(Scene(plan, state), task):
                state = state_behind_turn(plan, state, task)
                lot.append(task)
        lots.append(tuple(lot))
        waiting = ready_tasks(plan, state)
    return tuple(lots)


def longest_wait(house, choices):
    """The most turns, one behind another, that others took while one task was ready."""
    return max(list(waits_by_task(house, choices).values()))


def who_waits(house, choices, many):
    """The set of the tasks for which there are more than so many such turns."""
    longest = waits_by_task(house, choices)
    return tuple([task for task in longest if longest[task] > many])


def is_fair(house, choices, many):
    """Whether nobody waits for more than so many such turns."""
    return who_waits(house, choices, many) == ()


def waits_by_task(house, choices):
    """For each task, ascending, the most turns of others, one behind another, while it was ready."""
    plan = Plan(tupled(house))
    lots = [ready_tasks(plan, state) for state in played(plan, choices)]
    return {task: longest_of(lots, choices, task) for task in plan.tasks}


def longest_of(lots, choices, task):
    """The most turns of others, one behind another, each while this task was among the ready."""
    longest = 0
    many = 0
    for at, name in enumerate(choices):
        if name == task or task not in lots[at]:
            many = 0
        else:
            many += 1
            longest = max(longest, many)
    return longest
