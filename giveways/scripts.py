"""HOUSES: what makes one, what one holds, and HOUSES changed in one place."""

from giveways.errors import Known, NoGroup, NoStep, NoTask, Unfit
from giveways.links import hangs_together
from giveways.shapes import is_name, is_number, is_table, tupled
from giveways.steps import (
    CLOSING_WORDS,
    PARTS,
    QUEUE_WORDS,
    SIGNAL_WORDS,
    depths,
    fits_part,
    naming_marks,
    shields_close,
)


def is_step(thing):
    """Whether thing is a STEP."""
    if not isinstance(thing, tuple) or len(thing) == 0 or not isinstance(thing[0], str):
        return False
    kinds = PARTS.get(thing[0])
    if kinds is None or len(thing) != len(kinds) + 1:
        return False
    return all([fits_part(kind, part) for kind, part in zip(kinds, thing[1:])])


def is_script(thing):
    """Whether thing is a SCRIPT."""
    return isinstance(thing, tuple) and all([is_step(step) for step in thing]) and shields_close(thing)


def is_house(thing):
    """Whether thing is a HOUSE."""
    if not isinstance(thing, tuple) or len(thing) != 3:
        return False
    tasks, groups, rooms = thing
    return (
        is_table(tasks, 3)
        and len(tasks) > 0
        and all([(row[1] == "" or is_name(row[1])) and is_script(row[2]) for row in tasks])
        and is_table(groups, 2)
        and all([is_name(row[1]) for row in groups])
        and is_table(rooms, 2)
        and all([is_number(row[1]) and row[1] >= 1 for row in rooms])
        and hangs_together(tasks, groups)
    )


def task_names(house):
    """The set of the names of the tasks."""
    return tuple([row[0] for row in house[0]])


def queue_names(house):
    """The set of the queues that a STEP or rooms name."""
    named = [name for name, mark in naming_marks(house[0], QUEUE_WORDS)]
    named.extend([row[0] for row in house[2]])
    return tuple(sorted(set(named)))


def signal_names(house):
    """The set of the signals that a STEP names."""
    return tuple(sorted({name for name, mark in naming_marks(house[0], SIGNAL_WORDS)}))


def first_tasks(house):
    """The set of the tasks that no STEP starts."""
    started = {name: True for name, mark in naming_marks(house[0], ("start",))}
    return tuple([name for name in task_names(house) if name not in started])


def row_of(house, task):
    """The triple of this task."""
    for row in house[0]:
        if row[0] == task:
            return row
    raise NoTask(task)


def script_of(house, task):
    """The SCRIPT of this task."""
    return tupled(row_of(house, task)[2])


def group_of(house, task):
    """The group of this task, "" if it has none."""
    return row_of(house, task)[1]


def step_of(house, task, number):
    """The STEP of this task with this number."""
    steps = script_of(house, task)
    if not 0 <= number < len(steps):
        raise NoStep(number)
    return steps[number]


def shields_at(house, task, number):
    """How many shields stand around the STEP with this number, or behind all."""
    steps = script_of(house, task)
    if not 0 <= number <= len(steps):
        raise NoStep(number)
    return depths(steps)[number]


def all_marks(house):
    """The set of all MARKS."""
    return tuple([(row[0], number) for row in house[0] for number in range(len(row[2]))])


def starter_of(house, task):
    """The MARK of the STEP that starts this task, () if none does."""
    row_of(house, task)
    for name, mark in naming_marks(house[0], ("start",)):
        if name == task:
            return mark
    return ()


def host_of(house, group):
    """The host of this group."""
    for row in house[1]:
        if row[0] == group:
            return row[1]
    raise NoGroup(group)


def tasks_in(house, group):
    """The set of the tasks of this group."""
    host_of(house, group)
    return tuple([row[0] for row in house[0] if row[1] == group])


def closer_of(house, group):
    """The MARK of the STEP that closes or catches this group."""
    for name, mark in naming_marks(house[0], CLOSING_WORDS):
        if name == group:
            return mark
    raise NoGroup(group)


def hosts_above(house, task):
    """The host of its group, the host of that one's group, and so on."""
    above = []
    group = group_of(house, task)
    while group != "":
        above.append(host_of(house, group))
        group = group_of(house, above[-1])
    return tuple(above)


def room_of(house, queue):
    """The room that rooms tells for this queue, 0 if it tells none."""
    for row in house[2]:
        if row[0] == queue:
            return row[1]
    return 0


def fit(house):
    """This HOUSE, if it is one."""
    if not is_house(house):
        raise Unfit()
    return house


def with_script(house, task, steps):
    """The HOUSE with this SCRIPT for the task."""
    row_of(house, task)
    tasks, groups, rooms = tupled(house)
    script = tupled(steps)
    changed = [(name, group, script if name == task else old) for name, group, old in tasks]
    return fit((tuple(changed), groups, rooms))


def with_step(house, task, number, step):
    """The HOUSE with this STEP put in, so that it has this number."""
    steps = script_of(house, task)
    if not 0 <= number <= len(steps):
        raise NoStep(number)
    return with_script(house, task, steps[:number] + (step,) + steps[number:])


def without_step(house, task, number):
    """The HOUSE without the STEP with this number."""
    steps = script_of(house, task)
    if not 0 <= number < len(steps):
        raise NoStep(number)
    return with_script(house, task, steps[:number] + steps[number + 1:])


def with_task(house, name, steps):
    """The HOUSE with one task more, without a group."""
    tasks, groups, rooms = tupled(house)
    if name in task_names(house):
        raise Known(name)
    more = (name, "", tupled(steps))
    return fit((tuple(sorted([*tasks, more])), groups, rooms))


def without_task(house, task):
    """The HOUSE without this task."""
    row_of(house, task)
    tasks, groups, rooms = tupled(house)
    return fit((tuple([row for row in tasks if row[0] != task]), groups, rooms))


def with_room(house, queue, room):
    """The HOUSE with this room for the queue, without any if room is 0."""
    tasks, groups, rooms = tupled(house)
    others = [row for row in rooms if row[0] != queue]
    if room != 0:
        others = sorted([*others, (queue, room)])
    return fit((tasks, groups, tuple(others)))
