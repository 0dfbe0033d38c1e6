"""What is refused: names and numbers that a HOUSE does not have, and STEPS of a wrong word."""

from giveways.errors import NoGroup, NoNumber, NoQueue, NoSignal, NoStep, NoTask, Unfit


def check_task(plan, task):
    """Refuse a string that is none of the tasks."""
    if task not in plan.stand_at:
        raise NoTask(task)


def check_tasks(plan, names):
    """Refuse the first string that is none of the tasks."""
    for name in names:
        check_task(plan, name)


def check_number(plan, task, number):
    """Refuse a number that is none of a STEP of this task."""
    if not 0 <= number < len(plan.scripts[task]):
        raise NoStep(number)


def check_queue(plan, queue):
    """Refuse a string that is none of the queues."""
    if queue not in plan.lane_at:
        raise NoQueue(queue)


def check_signal(plan, signal):
    """Refuse a string that is none of the signals."""
    if signal not in plan.signal_at:
        raise NoSignal(signal)


def check_group(plan, group):
    """Refuse a string that is none of the groups."""
    if group not in plan.members:
        raise NoGroup(group)


def check_word(plan, mark, words):
    """Refuse a MARK whose number is none of a STEP, or whose STEP is of another word than these."""
    check_number(plan, mark[0], mark[1])
    if plan.scripts[mark[0]][mark[1]][0] not in words:
        raise Unfit()


def check_marks(plan, pairs):
    """Refuse the first pair whose name is no task, then the first whose number is none of a STEP."""
    check_tasks(plan, [pair[0] for pair in pairs])
    for task, number in pairs:
        check_number(plan, task, number)


def check_places(choices, places):
    """Refuse the first number that is no place of a turn."""
    for number in places:
        if not 0 <= number < len(choices):
            raise NoNumber(number)
