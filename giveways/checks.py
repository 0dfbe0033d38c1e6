"""What is refused: names and numbers that a HOUSE does not have, and STEPS of a wrong word."""

from giveways.errors import NoGroup, NoQueue, NoSignal, NoStep, Unfit


def check_number(plan, task, number):
    """Refuse a number that is none of a STEP of this task."""
    if not 0 <= number < len(plan.scripts[task]):
        raise NoStep(number)


def check_queue(plan, queue):
    """Refuse a string that is none of the queues."""
    if queue not in plan.lane_at:
        raise NoQueue(queue)


def check_signal(plan, signal):
    """Refuse a string that is none of the signals."""
    if signal not in plan.signal_at:
        raise NoSignal(signal)


def check_group(plan, group):
    """Refuse a string that is none of the groups."""
    if group not in plan.members:
        raise NoGroup(group)


def check_word(plan, mark, words):
    """Refuse a MARK whose number is none of a STEP, or whose STEP is of another word than these."""
    check_number(plan, mark[0], mark[1])
    if plan.scripts[mark[0]][mark[1]][0] not in words:
        raise Unfit()
