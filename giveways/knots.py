"""Who waits for whom at one STATE, who may stop whom, and who stands for ever."""

from giveways.diaries import row_at
from giveways.play import HELD, NUMBER, STATUS, Scene, is_ready, step_ahead
from giveways.steps import CLOSING_WORDS, time_of

HELPING_WORDS = {"put": "get", "get": "put", "hear": "set"}


def left_to(plan, state, task):
    """The STEPS that this task has not taken."""
    return plan.scripts[task][row_at(plan, state, task)[NUMBER]:]


def status_of(plan, state, task):
    """Whether this task is idle, going, ended, stopped or failed."""
    return row_at(plan, state, task)[STATUS]


def live_at(plan, state):
    """The set of the tasks that are live: going, or idle with a live one that has its start left."""
    found = [task for task in plan.tasks if status_of(plan, state, task) == "going"]
    waiting = list(found)
    while waiting:
        started = [step[1] for step in left_to(plan, state, waiting.pop()) if step[0] == "start"]
        found.extend(started)
        waiting.extend(started)
    return tuple(sorted(found))


def is_waiting_at(plan, state, task):
    """Whether this task is going and not ready, and its next STEP has no end and no moment."""
    scene = Scene(plan, state)
    return scene.is_going(task) and not is_ready(scene, task) and time_of(step_ahead(scene, task)) is None


def waited_at(plan, state, task):
    """The set of those for whom this task waits."""
    if status_of(plan, state, task) == "idle" and task in live_at(plan, state):
        return (plan.starters[task],)
    if not is_waiting_at(plan, state, task):
        return ()
    word, what = step_ahead(Scene(plan, state), task)[:2]
    if word in CLOSING_WORDS:
        return tuple([name for name in plan.members[what] if status_of(plan, state, name) == "going"])
    others = [name for name in live_at(plan, state) if name != task]
    if word == "join":
        return tuple([name for name in others if name == what])
    helping = HELPING_WORDS[word]
    return tuple([name for name in others if (helping, what) in [step[:2] for step in left_to(plan, state, name)]])


def stoppers_at(plan, state, task):
    """The set of those who may stop this task."""
    scene = Scene(plan, state)
    if not scene.is_going(task) or scene.depth(task) > 0:
        return ()
    line = line_of(plan, task)
    others = [name for name in live_at(plan, state) if name != task]
    return tuple([name for name in others if can_stop_line(plan, state, name, line)])


def line_of(plan, task):
    """This task, the host of its group, the host of that one's group, and so on."""
    line = [task]
    above = plan.hosts[task]
    while above != ():
        line.append(above[0])
        above = plan.hosts[above[0]]
    return line


def can_stop_line(plan, state, task, line):
    """Whether this task has a STEP left by which it may stop the first one of the line."""
    steps = left_to(plan, state, task)
    words = [step[0] for step in steps]
    if any([("cancel", name) in steps for name in line]):
        return True
    if task in line and "out" in words and row_at(plan, state, task)[HELD] != ():
        return True
    is_near = task in line or any([task in plan.mates[name] for name in line])
    return is_near and ("fail" in words or "close" in words)


def is_held_in(plan, state, task, names):
    """Whether this live task stands where it is as long as all of these names do."""
    if status_of(plan, state, task) == "idle":
        return plan.starters[task] in names
    if not is_waiting_at(plan, state, task):
        return False
    if not all([name in names for name in stoppers_at(plan, state, task)]):
        return False
    stays = [name in names for name in waited_at(plan, state, task)]
    if step_ahead(Scene(plan, state), task)[0] in CLOSING_WORDS:
        return any(stays)
    return all(stays)


def greatest_knot_at(plan, state):
    """The greatest KNOT: the live tasks, without those that do not stand, as long as there are such."""
    names = live_at(plan, state)
    kept = held_in(plan, state, names)
    while kept != names:
        names = kept
        kept = held_in(plan, state, names)
    return names


def held_in(plan, state, names):
    """Those of these names that stand where they are as long as all of them do."""
    return tuple([name for name in names if is_held_in(plan, state, name, names)])
