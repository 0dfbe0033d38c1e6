"""Ends: who is live, who waits for whom, KNOTS and FENCES, and what becomes of a task behind all whole runs."""

from giveways.bonds import led_to
from giveways.checks import check_task, check_tasks
from giveways.diaries import is_over_at, row_at, words_told_at
from giveways.knots import greatest_knot_at, is_held_in, is_waiting_at, live_at, stoppers_at, waited_at
from giveways.plans import Plan
from giveways.play import STATUS, ready_tasks, state_behind_turn
from giveways.runs import played, state_if_run, state_if_whole
from giveways.scripts import closer_of
from giveways.shapes import tupled
from giveways.webs import end_places, ends_of_plan, first_run, least_runs, web_of


def live(house, state):
    """The set of the tasks that are live."""
    return live_at(Plan(tupled(house)), tupled(state))


def is_waiting(house, state, task):
    """Whether this task is going and not ready, and its next STEP has no end and no moment."""
    plan = Plan(tupled(house))
    check_task(plan, task)
    return is_waiting_at(plan, tupled(state), task)


def waits_for(house, state, task):
    """The set of those for whom this task waits."""
    plan = Plan(tupled(house))
    check_task(plan, task)
    return waited_at(plan, tupled(state), task)


def could_stop(house, state, task):
    """The set of those who may stop this task."""
    plan = Plan(tupled(house))
    check_task(plan, task)
    return stoppers_at(plan, tupled(state), task)


def row_of_waits(house, state, task):
    """This task, then each time the least of those for whom the one ahead waits."""
    plan = Plan(tupled(house))
    check_task(plan, task)
    row = [task]
    names = waited_at(plan, tupled(state), task)
    while names != () and row[-1] not in row[:-1]:
        row.append(names[0])
        names = waited_at(plan, tupled(state), names[0])
    return tuple(row)


def in_rings(house, state):
    """The set of the tasks from which waits lead back to themselves."""
    plan = Plan(tupled(house))
    waited = {task: waited_at(plan, tupled(state), task) for task in plan.tasks}
    return tuple([task for task in plan.tasks if task in led_to(waited, task)])


def is_knot(house, state, thing):
    """Whether thing is a KNOT."""
    plan = Plan(tupled(house))
    if not isinstance(thing, tuple) or not all([isinstance(name, str) for name in thing]):
        return False
    alive = live_at(plan, tupled(state))
    if list(thing) != sorted(set(thing)) or not all([name in alive for name in thing]):
        return False
    return all([is_held_in(plan, tupled(state), name, thing) for name in thing])


def greatest_knot(house, state):
    """The greatest KNOT."""
    return greatest_knot_at(Plan(tupled(house)), tupled(state))


def lost_from(house, choices, task):
    """The least number of turns behind which this task is in the greatest KNOT, None if there is none."""
    plan = Plan(tupled(house))
    check_task(plan, task)
    for many, state in enumerate(played(plan, choices)):
        if task in greatest_knot_at(plan, state):
            return many
    return None


def fates(house, task):
    """The set of the status words that this task has at ENDS."""
    plan = Plan(tupled(house))
    check_task(plan, task)
    return tuple(sorted({row_at(plan, state, task)[STATUS] for state in ends_of_plan(plan)}))


def run_to_fate(house, task, status):
    """A whole run behind which this task has this status, None if there is none."""
    plan = Plan(tupled(house))
    check_task(plan, task)
    web = web_of(plan)
    return first_run(web, [at for at in end_places(web) if row_at(plan, web.rows[at], task)[STATUS] == status])


def is_run_to_fate(house, task, status, thing):
    """Whether thing is a whole run behind which this task has this status."""
    plan = Plan(tupled(house))
    check_task(plan, task)
    state = state_if_whole(plan, thing)
    return state is not None and row_at(plan, state, task)[STATUS] == status


def surely_over(house, task):
    """Whether this task is over at all ENDS."""
    plan = Plan(tupled(house))
    check_task(plan, task)
    return all([is_over_at(plan, state, task) for state in ends_of_plan(plan)])


def standing_run(house):
    """A whole run behind which some task is going, None if there is none."""
    web = web_of(Plan(tupled(house)))
    standing = [at for at in end_places(web) if "going" in [row[STATUS] for row in web.rows[at][1]]]
    return first_run(web, standing)


def fence(house):
    """A FENCE with just one run for each STATE that comes."""
    return tuple(sorted(least_runs(web_of(Plan(tupled(house))))))


def is_fence(house, thing):
    """Whether thing is a FENCE."""
    plan = Plan(tupled(house))
    if not isinstance(thing, tuple):
        return False
    found = [state_if_run(plan, run) for run in thing]
    if None in found or () not in thing:
        return False
    if not all([thing[at - 1] < thing[at] for at in range(1, len(thing))]):
        return False
    known = {state: True for state in found}
    return all([
        state_behind_turn(plan, state, task) in known
        for state in known
        for task in ready_tasks(plan, state)
    ])


def words_told(house, group):
    """The set of the words of all ENTRIES of the closing STEP of this group, in all whole runs."""
    plan = Plan(tupled(house))
    mark = closer_of(house, group)
    words = [words_told_at(plan, state, mark) for state in ends_of_plan(plan)]
    return tuple(sorted({some for some in words if some is not None}))


def run_with_words(house, group, words):
    """A whole run with just these words in the ENTRY of the closing STEP, None if there is none."""
    plan = Plan(tupled(house))
    mark = closer_of(house, group)
    web = web_of(plan)
    return first_run(web, [at for at in end_places(web) if words_told_at(plan, web.rows[at], mark) == tupled(words)])


def is_run_with_words(house, group, words, thing):
    """Whether thing is a whole run with just these words in the ENTRY of the closing STEP."""
    plan = Plan(tupled(house))
    mark = closer_of(house, group)
    state = state_if_whole(plan, thing)
    return state is not None and words_told_at(plan, state, mark) == tupled(words)


def run_to_failed(house, some):
    """A whole run behind which each of some has failed, None if there is none."""
    plan = Plan(tupled(house))
    check_tasks(plan, some)
    web = web_of(plan)
    return first_run(web, [at for at in end_places(web) if have_failed(plan, web.rows[at], some)])


def is_run_to_failed(house, some, thing):
    """Whether thing is a whole run behind which each of some has failed."""
    plan = Plan(tupled(house))
    check_tasks(plan, some)
    state = state_if_whole(plan, thing)
    return state is not None and have_failed(plan, state, some)


def have_failed(plan, state, some):
    """Whether each of some has failed."""
    return all([row_at(plan, state, task)[STATUS] == "failed" for task in some])
