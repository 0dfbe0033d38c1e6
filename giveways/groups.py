"""Groups and shields: who is asked to stop by whom, who is to blame, and what a stop can do."""

from giveways.blames import blames_at
from giveways.checks import check_group, check_number, check_task, check_tasks
from giveways.diaries import row_at, stopped_mark, words_told_at
from giveways.errors import Unfit
from giveways.plans import Plan
from giveways.play import HELD, NUMBER, STATUS, WORDS, Scene, scene_behind_turn, words_of
from giveways.runs import check_ready, played
from giveways.scripts import closer_of, script_of, with_script, with_step
from giveways.shapes import is_just, tupled
from giveways.webs import ends_of_plan


def hosted(house, task):
    """The set of the groups that this task hosts."""
    check_task(Plan(tupled(house)), task)
    return tuple([group for group, host in house[1] if host == task])


def mates(house, task):
    """The set of the other tasks of its group."""
    plan = Plan(tupled(house))
    check_task(plan, task)
    return plan.mates[task]


def below(house, task):
    """The set of the tasks of the groups that it hosts, of those that these host, and so on."""
    plan = Plan(tupled(house))
    check_task(plan, task)
    found = []
    waiting = list(plan.wards[task])
    while waiting:
        found.append(waiting.pop())
        waiting.extend(plan.wards[found[-1]])
    return tuple(sorted(found))


def shields(house, task):
    """The pairs of the numbers of an "in" and its "out"."""
    plan = Plan(tupled(house))
    check_task(plan, task)
    return shields_in(plan.scripts[task])


def asked(house, choices, task):
    """What the turn of this task, next behind choices, asks of whom, and what comes of it."""
    plan = Plan(tupled(house))
    check_task(plan, task)
    state = played(plan, choices)[-1]
    check_ready(plan, state, task)
    return tuple(scene_behind_turn(plan, state, task).asks)


def held_back(house, choices):
    """The pairs of a task that is going, but held, and what it is held by."""
    state = played(Plan(tupled(house)), choices)[-1]
    return tuple([(row[0], row[HELD]) for row in state[1] if row[STATUS] == "going" and row[HELD] != ()])


def stopped_by(house, choices, task):
    """The MARK by which this task is stopped, None if it is not."""
    plan = Plan(tupled(house))
    check_task(plan, task)
    return stopped_mark(plan, played(plan, choices)[-1], task)


def words_in(house, choices, group):
    """The set of the words of the tasks of this group."""
    plan = Plan(tupled(house))
    check_tasks(plan, choices)
    check_group(plan, group)
    return words_of(Scene(plan, played(plan, choices)[-1]), group)


def came_out(house, choices, group):
    """The words that the "close" or "catch" of this group told, None if that has not been taken."""
    plan = Plan(tupled(house))
    check_tasks(plan, choices)
    check_group(plan, group)
    return words_told_at(plan, played(plan, choices)[-1], closer_of(house, group))


def blame(house, choices, task):
    """A BLAME of this task, None if it is neither stopped nor failed."""
    told = all_blames(house, choices, task)
    return told[0] if told else None


def is_blame(house, choices, task, thing):
    """Whether thing is a BLAME of this task."""
    return any([is_just(thing, one) for one in all_blames(house, choices, task)])


def how_many_blames(house, choices, task):
    """How many BLAMES of this task there are."""
    return len(all_blames(house, choices, task))


def first_causes(house, choices, task):
    """The set of the MARKS of the last triples of all its BLAMES."""
    return tuple(sorted({one[-1][2] for one in all_blames(house, choices, task)}))


def with_cancel(house, task, number, name):
    """The HOUSE with a STEP put in that cancels the task of this name."""
    check_tasks(Plan(tupled(house)), (task, name))
    return with_step(house, task, number, ("cancel", name))


def with_shield(house, task, first, last):
    """The HOUSE with a shield around the STEPS from first to last."""
    plan = Plan(tupled(house))
    check_task(plan, task)
    check_number(plan, task, first)
    check_number(plan, task, last)
    steps = plan.scripts[task]
    if not can_shield(steps, first, last):
        raise Unfit()
    shielded = steps[:first] + (("in",),) + steps[first:last + 1] + (("out",),) + steps[last + 1:]
    return with_script(house, task, shielded)


def without_shield(house, task, number):
    """The HOUSE without the "in" of this number and its "out"."""
    plan = Plan(tupled(house))
    check_task(plan, task)
    check_number(plan, task, number)
    steps = plan.scripts[task]
    outs = [last for first, last in shields_in(steps) if first == number]
    if outs == []:
        raise Unfit()
    return with_script(house, task, steps[:number] + steps[number + 1:outs[0]] + steps[outs[0] + 1:])


def may_stop(house, task):
    """How many STEPS it has taken, and by which MARK, when it is stopped in some run."""
    plan = Plan(tupled(house))
    check_task(plan, task)
    pairs = [(row_at(plan, state, task)[NUMBER], stopped_mark(plan, state, task)) for state in ends_of_plan(plan)]
    return tuple(sorted({pair for pair in pairs if pair[1] is not None}))


def may_fail(house, task):
    """The set of the tuples of words with which it fails in some run."""
    plan = Plan(tupled(house))
    check_task(plan, task)
    words = [row_at(plan, state, task)[WORDS] for state in ends_of_plan(plan)]
    return tuple(sorted({some for some in words if some != ()}))


def may_come_out(house, group):
    """The set of the words, together, that the "close" or "catch" of this group tells in some run."""
    plan = Plan(tupled(house))
    mark = closer_of(house, group)
    words = [words_told_at(plan, state, mark) for state in ends_of_plan(plan)]
    return tuple(sorted({some for some in words if some is not None}))


def never_stopped(house):
    """The set of the tasks that no run stops."""
    plan = Plan(tupled(house))
    ends = ends_of_plan(plan)
    return tuple([
        task for task in plan.tasks
        if all([stopped_mark(plan, state, task) is None for state in ends])
    ])


def biting(house, task, name):
    """The numbers at which a STEP put in, which cancels that task, can be the one by which it is stopped."""
    plan = Plan(tupled(house))
    check_tasks(plan, (task, name))
    numbers = []
    for number in range(len(plan.scripts[task]) + 1):
        stops = may_stop(with_cancel(house, task, number, name), name)
        if (task, number) in [mark for many, mark in stops]:
            numbers.append(number)
    return tuple(numbers)


def is_never_cut(house, task):
    """Whether in no run it is stopped ahead of its last STEP."""
    pairs = may_stop(house, task)
    many = len(script_of(house, task))
    return all([number == many for number, mark in pairs])


def keeping_shields(house, task):
    """The pairs of numbers such that in a shield from one to the other it is never cut."""
    plan = Plan(tupled(house))
    check_task(plan, task)
    steps = plan.scripts[task]
    return [
        (first, last)
        for first in range(len(steps))
        for last in range(first, len(steps))
        if can_shield(steps, first, last) and is_never_cut(with_shield(house, task, first, last), task)
    ]


def least_shield(house, task):
    """() if it is never cut as it is; otherwise the shortest shield that keeps it, None if none does."""
    if is_never_cut(house, task):
        return ()
    pairs = keeping_shields(house, task)
    return min(pairs, key=lambda pair: (pair[1] - pair[0], pair)) if pairs else None


def all_blames(house, choices, task):
    """All BLAMES of this task behind these turns."""
    plan = Plan(tupled(house))
    check_task(plan, task)
    return blames_at(plan, played(plan, choices)[-1], task)


def shields_in(steps):
    """The pairs of the numbers of an "in" and its "out", ascending."""
    waiting = []
    pairs = []
    for number, step in enumerate(steps):
        if step[0] == "in":
            waiting.append(number)
        elif step[0] == "out":
            pairs.append((waiting.pop(), number))
    return tuple(sorted(pairs))


def can_shield(steps, first, last):
    """Whether a shield can stand around the STEPS from first to last."""
    parted = [pair for pair in shields_in(steps) if (first <= pair[0] <= last) != (first <= pair[1] <= last)]
    return first <= last and parted == []
