"""EDITS: HOUSES changed in one place, and how that is undone."""

from giveways.errors import HouseError, Known, NoStep
from giveways.scripts import (
    closer_of,
    fit,
    group_of,
    host_of,
    is_script,
    is_step,
    room_of,
    row_of,
    script_of,
    starter_of,
    step_of,
    task_names,
    with_room,
    with_script,
    with_step,
    without_step,
)
from giveways.shapes import is_name, is_number, tupled
from giveways.steps import CLOSING_WORDS

FORMS = {
    "in": ("name", "number", "step"),
    "out": ("name", "number"),
    "for": ("name", "number", "step"),
    "task": ("name", "group", "script", "starter"),
    "gone": ("name",),
    "group": ("name", "name", "step", "number"),
    "apart": ("name",),
    "room": ("name", "number"),
}


def is_edit(thing):
    """Whether thing has the form of an EDIT."""
    if not isinstance(thing, tuple) or len(thing) == 0 or not isinstance(thing[0], str):
        return False
    kinds = FORMS.get(thing[0])
    if kinds is None or len(thing) != len(kinds) + 1:
        return False
    if not all([fits_kind(kind, part) for kind, part in zip(kinds, thing[1:])]):
        return False
    return thing[0] != "group" or is_closing(thing[3], thing[1])


def edited(house, edit):
    """The HOUSE that comes of this EDIT."""
    whole = tupled(house)
    word, *parts = tupled(edit)
    if word == "in":
        return with_step(whole, *parts)
    if word == "out":
        return without_step(whole, *parts)
    if word == "for":
        return with_other_step(whole, *parts)
    if word == "task":
        return with_member(whole, *parts)
    if word == "gone":
        return without_member(whole, *parts)
    if word == "group":
        return with_group(whole, *parts)
    if word == "apart":
        return without_group(whole, *parts)
    return with_room(whole, *parts)


def undone_by(house, edit):
    """The EDIT that brings back the HOUSE."""
    edited(house, edit)
    word, name, *rest = tupled(edit)
    if word == "in":
        return ("out", name, rest[0])
    if word == "out":
        return ("in", name, rest[0], step_of(house, name, rest[0]))
    if word == "for":
        return ("for", name, rest[0], step_of(house, name, rest[0]))
    if word == "task":
        return ("gone", name)
    if word == "gone":
        return ("task", name, group_of(house, name), script_of(house, name), starter_of(house, name))
    if word == "group":
        return ("apart", name)
    if word == "apart":
        host, number = closer_of(house, name)
        return ("group", name, host, step_of(house, host, number), number)
    return ("room", name, room_of(house, name))


def do_commute(house, one, other):
    """Whether both EDITS, in either order, are not refused and lead to one HOUSE."""
    told = behind_both_edits(house, one, other)
    return told is not None and told == behind_both_edits(house, other, one)


def fits_kind(kind, thing):
    """Whether thing can be a part of this kind in an EDIT."""
    if kind == "step":
        return is_step(thing)
    if kind == "script":
        return is_script(thing)
    if kind == "number":
        return is_number(thing) and thing >= 0
    if kind == "starter":
        return thing == () or is_mark(thing)
    return is_name(thing) or (kind == "group" and thing == "")


def is_mark(thing):
    """Whether thing has the form of a MARK."""
    return (
        isinstance(thing, tuple)
        and len(thing) == 2
        and is_name(thing[0])
        and is_number(thing[1])
        and thing[1] >= 0
    )


def is_closing(step, group):
    """Whether this STEP closes or catches the group."""
    return step[0] in CLOSING_WORDS and step[1] == group


def behind_both_edits(house, one, other):
    """The HOUSE behind both EDITS, None if one of them is refused."""
    try:
        return edited(edited(house, one), other)
    except HouseError:
        return None


def with_other_step(house, task, number, step):
    """The HOUSE with this STEP in the place of that one."""
    step_of(house, task, number)
    steps = script_of(house, task)
    return with_script(house, task, steps[:number] + (step,) + steps[number + 1:])


def with_member(house, name, group, script, starter):
    """The HOUSE with one task more, of this group, started by a STEP put in."""
    tasks, groups, rooms = house
    steps = script_of(house, starter[0]) if starter != () else ()
    if group != "":
        host_of(house, group)
    if starter != () and not 0 <= starter[1] <= len(steps):
        raise NoStep(starter[1])
    if name in task_names(house):
        raise Known(name)
    if starter != ():
        tasks = rows_with(tasks, starter[0], starter[1], ("start", name))
    return fit((tuple(sorted([*tasks, (name, group, script)])), groups, rooms))


def without_member(house, task):
    """The HOUSE without this task and the STEP that starts it."""
    row_of(house, task)
    tasks, groups, rooms = house
    others = [row for row in tasks if row[0] != task]
    return fit((rows_without(others, (("start", task),)), groups, rooms))


def with_group(house, group, host, step, number):
    """The HOUSE with one group more, which this STEP of its host closes or catches."""
    tasks, groups, rooms = house
    if not 0 <= number <= len(script_of(house, host)):
        raise NoStep(number)
    if group in [pair[0] for pair in groups]:
        raise Known(group)
    return fit((rows_with(tasks, host, number, step), tuple(sorted([*groups, (group, host)])), rooms))


def without_group(house, group):
    """The HOUSE without this group and the STEP that closes or catches it."""
    host_of(house, group)
    tasks, groups, rooms = house
    closing = (("close", group), ("catch", group))
    return fit((rows_without(tasks, closing), tuple([pair for pair in groups if pair[0] != group]), rooms))


def rows_with(tasks, task, number, step):
    """The tasks with this STEP put in, so that it has this number."""
    return tuple([
        (name, group, steps[:number] + (step,) + steps[number:] if name == task else steps)
        for name, group, steps in tasks
    ])


def rows_without(tasks, gone):
    """The tasks without these STEPS."""
    return tuple([
        (name, group, tuple([step for step in steps if step not in gone]))
        for name, group, steps in tasks
    ])
