"""Which tasks hang together, and who heeds whom."""

from giveways.steps import QUEUE_WORDS, SIGNAL_WORDS, TASK_WORDS


def names_by(plan, task, words):
    """What the STEPS of these words of this task name."""
    return [step[1] for step in plan.scripts[task] if step[0] in words]


def shares(names, others):
    """Whether some name is among both."""
    return any([name in others for name in names])


def share_queue(plan, one, other):
    """Whether STEPS of both name one queue."""
    return shares(names_by(plan, one, QUEUE_WORDS), names_by(plan, other, QUEUE_WORDS))


def is_near(plan, one, other):
    """Whether one of both hosts the group of the other one, or both are of one group."""
    return other in plan.wards[one] or one in plan.wards[other] or other in plan.mates[one]


def hang_together(plan, one, other):
    """Whether these two tasks hang together."""
    return (
        share_queue(plan, one, other)
        or shares(names_by(plan, one, SIGNAL_WORDS), names_by(plan, other, SIGNAL_WORDS))
        or other in names_by(plan, one, TASK_WORDS)
        or one in names_by(plan, other, TASK_WORDS)
        or is_near(plan, one, other)
    )


def does_heed(plan, one, other):
    """Whether the first one of these two tasks heeds the other one."""
    return (
        share_queue(plan, one, other)
        or shares(names_by(plan, one, SIGNAL_WORDS), names_by(plan, other, ("set",)))
        or other in names_by(plan, one, ("join",))
        or one in names_by(plan, other, ("start", "cancel"))
        or is_near(plan, one, other)
    )


def heeded(plan, task):
    """The set of the tasks that this one heeds."""
    return tuple([name for name in plan.tasks if name != task and does_heed(plan, task, name)])


def heeders_of(plan, task):
    """The least set with this task, and with all that heed one of the set."""
    heeding = {name: [other for other in plan.tasks if name in heeded(plan, other)] for name in plan.tasks}
    return tuple(sorted(set([task, *led_to(heeding, task)])))


def side_with(plan, task):
    """The side of this task."""
    near = {
        name: [other for other in plan.tasks if other != name and hang_together(plan, name, other)]
        for name in plan.tasks
    }
    return tuple(sorted(set([task, *led_to(near, task)])))


def led_to(onward, task):
    """The tasks to which the table, taken once or more often, leads from this one."""
    found = []
    waiting = list(onward[task])
    while waiting:
        name = waiting.pop()
        if name not in found:
            found.append(name)
            waiting.extend(onward[name])
    return found
