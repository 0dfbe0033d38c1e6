"""CLASH PAPERS: PARTS of a whole run behind which two tasks clash."""

from giveways.diaries import next_mark
from giveways.play import ready_tasks
from giveways.runs import played
from giveways.ties import clash_at, needs_by_place, numbered, parts_by, state_at_part


def clashes_at(plan, state):
    """The pairs of ready tasks, one ahead of the other, that clash at this STATE."""
    names = ready_tasks(plan, state)
    return tuple([
        (one, other)
        for at, one in enumerate(names)
        for other in names[at + 1:]
        if clash_at(plan, state, one, other)
    ])


def papers_against(plan, choices):
    """All CLASH PAPERS against this whole run."""
    row = played(plan, choices)
    taken = numbered(choices)
    told = []
    for part in parts_by(needs_by_place(plan, row, choices)):
        state = state_at_part(plan, row, choices, part)
        for one, other in clashes_at(plan, state):
            if next_mark(plan, state, one) in taken or next_mark(plan, state, other) in taken:
                told.append((part, one, other))
    return told
