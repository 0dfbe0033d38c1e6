"""What STATES keep of the turns behind them: which ENTRY is of which STEP."""

from giveways.play import DIARY, NUMBER, STATUS
from giveways.steps import NOTING_WORDS


def row_at(plan, state, task):
    """The row of this task in the stands."""
    return state[1][plan.stand_at[task]]


def is_over_at(plan, state, task):
    """Whether this task is ended, stopped or failed."""
    return row_at(plan, state, task)[STATUS] not in ("idle", "going")


def entries_at(plan, state, task):
    """For each STEP taken that has an ENTRY, by its number, that one."""
    row = row_at(plan, state, task)
    taken = plan.scripts[task][:row[NUMBER]]
    noting = [number for number, step in enumerate(taken) if step[0] in NOTING_WORDS]
    return {number: entry for number, entry in zip(noting, row[DIARY])}


def entry_of(plan, state, mark):
    """The ENTRY of the STEP of this MARK, None if it is not taken or has none."""
    return entries_at(plan, state, mark[0]).get(mark[1])


def noted(plan, state, word):
    """The pairs (MARK, ENTRY) of all ENTRIES with this word, ascending by MARKS."""
    return [
        ((task, number), entry)
        for task in plan.tasks
        for number, entry in entries_at(plan, state, task).items()
        if entry[0] == word
    ]


def stopped_mark(plan, state, task):
    """The MARK by which this task is stopped, None if it is not."""
    row = row_at(plan, state, task)
    return row[DIARY][-1][1] if row[STATUS] == "stopped" else None


def is_taken(plan, state, mark):
    """Whether the STEP of this MARK is taken."""
    return row_at(plan, state, mark[0])[NUMBER] > mark[1]


def next_mark(plan, state, task):
    """The MARK of the next STEP of this task, if there is one."""
    return (task, row_at(plan, state, task)[NUMBER])


def words_told_at(plan, state, mark):
    """The words that the closing STEP of this MARK told, None if it is not taken."""
    entry = entry_of(plan, state, mark)
    return entry[1] if entry is not None else None
