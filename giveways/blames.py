"""Who is to blame that a task is stopped or failed: its BLAMES, behind one STATE."""

from giveways.diaries import row_at, stopped_mark
from giveways.play import NUMBER, STATUS


def blames_at(plan, state, task):
    """All BLAMES of this task; none if it is neither stopped nor failed."""
    told = []
    for triple, names in causes(plan, state, task):
        if names == ():
            told.append((triple,))
        for name in names:
            told.extend([(triple, *rest) for rest in blames_at(plan, state, name)])
    return told


def causes(plan, state, task):
    """The triples with which a BLAME of this task can begin, each with the tasks one of which is next."""
    status = row_at(plan, state, task)[STATUS]
    if status == "failed":
        return [cause_of_failed(plan, state, task)]
    if status == "stopped":
        return causes_of_stopped(plan, state, task)
    return []


def cause_of_failed(plan, state, task):
    """The triple of a failed task, and the failed tasks of the group that it closed."""
    mark = failed_mark(plan, state, task)
    step = plan.scripts[task][mark[1]]
    if step[0] == "fail":
        return ((task, "own", mark), ())
    members = plan.members[step[1]]
    return ((task, "group", mark), tuple([name for name in members if failed_mark(plan, state, name) is not None]))


def causes_of_stopped(plan, state, task):
    """The triples of a stopped task, each with the one by whom it was stopped."""
    mark = stopped_mark(plan, state, task)
    told = []
    if plan.scripts[mark[0]][mark[1]] == ("cancel", task):
        told.append(((task, "cancel", mark), ()))
    for name in plan.mates[task]:
        if failed_mark(plan, state, name) == mark:
            told.append(((task, "mate", mark), (name,)))
    for name in plan.hosts[task]:
        if mark in (failed_mark(plan, state, name), stopped_mark(plan, state, name)):
            told.append(((task, "host", mark), (name,)))
    return told


def failed_mark(plan, state, task):
    """The MARK of the STEP by which this task failed, None if it did not."""
    row = row_at(plan, state, task)
    return (task, row[NUMBER] - 1) if row[STATUS] == "failed" else None
